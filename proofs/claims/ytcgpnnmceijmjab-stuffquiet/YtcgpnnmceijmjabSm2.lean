/- More plain mathematics of bits laid between: what each statement of the layer asks; nothing of the program is in it. -/
import Derived.Test.YtcgpnnmceijmjabSm
namespace Go.Proofs.Ytcgpnnmceijmjab.Sm

theorem step_zero (b c : Bool) : step (0, b) c = (1, c) := by unfold step; rw [if_neg (by simp)]
theorem calm_take {r : Nat × Bool} {a b : List Bool} (h : calm r (a ++ b)) : calm r a := fun k => by
  by_cases hk : k ≤ a.length
  · have := h k; rwa [List.take_append_of_le_length hk] at this
  · rw [List.take_of_length_le (by omega)]
    have := h a.length
    rwa [List.take_left] at this
theorem calm_run {r : Nat × Bool} {a : List Bool} (h : calm r a) : (run r a).1 ≤ 5 := by
  have := h a.length
  rwa [List.take_of_length_le (Nat.le_refl _)] at this
theorem calm_tail {r : Nat × Bool} {c : Bool} {t : List Bool} (h : calm r (c :: t)) : calm (step r c) t := fun k => by
  have := h (k + 1); rwa [List.take_succ_cons, run_cons] at this

/-- taking away goes on behind a calm row -/
theorem un_append (a b : List Bool) : ∀ r o i, calm r a → unB r o i (a ++ b) = unB (run r a) (unB r o i a).1 (i + a.length) b := by
  induction a with
  | nil => intro r o i _; rfl
  | cons c t ih =>
    intro r o i h
    have h1 := calm_tail h 0
    have h1' : (step r c).1 ≤ 5 := h1
    rw [List.cons_append, run_cons]
    conv => lhs; unfold unB; rw [if_neg (by omega)]
    have e : unB r o i (c :: t) = unB (step r c) (if r.1 = 5 then o else o ++ [c]) (i + 1) t := by conv => lhs; unfold unB; rw [if_neg (by omega)]
    rw [e, ih _ _ _ (calm_tail h), List.length_cons, show i + 1 + t.length = i + (t.length + 1) by omega]
theorem un_rep (c : Bool) : ∀ (m q : Nat) (o : List Bool) (i : Nat), 0 < q → q ≤ 5 → 6 ≤ q + m → (unB (q, c) o i (List.replicate m c)).2 = ((i + (5 - q) : Nat) : Int) := by
  intro m
  induction m with
  | zero => intro q o i h1 h2 h3; omega
  | succ m ih =>
    intro q o i h1 h2 h3
    have hs : step (q, c) c = (q + 1, c) := by unfold step; rw [if_pos ⟨h1, rfl⟩]
    rw [List.replicate_succ]
    unfold unB
    rw [hs]
    by_cases h6 : q = 5
    · subst h6; rw [if_pos rfl]; simp
    · rw [if_neg (by simp; omega), ih (q + 1) _ (i + 1) (by omega) (by omega) (by omega)]
      congr 1; omega
/-- six alike behind a calm row are told at the sixth -/
theorem un_six (t : List Bool) (c : Bool) (q m : Nat) (h : calm (0, false) t) (hr : run (0, false) t = (q, c)) (hq : 0 < q) (hm : 6 ≤ q + m) : (unstuff (t ++ List.replicate m c)).2 = ((t.length + 5 - q : Nat) : Int) := by
  have h5 : q ≤ 5 := by have := calm_run h; rw [hr] at this; exact this
  unfold unstuff
  rw [un_append _ _ _ _ _ h, hr, un_rep c m q _ _ hq h5 hm]
  congr 1; omega
theorem next_six (bs : List Bool) (h : 0 ≤ (unstuff bs).2) : next bs = -2 := by unfold next; rw [if_pos h]

/-- where nothing is laid no five stand at the end -/
theorem same_len (bs : List Bool) : ∀ r : Nat × Bool, r.1 < 5 → (stB r [] bs).length = bs.length → (run r bs).1 < 5 := by
  induction bs with
  | nil => intro r h _; exact h
  | cons c t ih =>
    intro r hr he
    have hle := step_le r c
    by_cases h : (step r c).1 = 5
    · rw [stB_cons5 r c t h] at he
      have := stB_len_ge t (1, !c)
      simp at he
      omega
    · rw [stB_cons r c t h] at he
      rw [run_cons]
      exact ih _ (by omega) (by simpa using he)
theorem next_same (bs : List Bool) (h : stuff bs = bs) : next bs < 0 := by
  have := same_len bs (0, false) (by decide) (by show (stuff bs).length = _; rw [h])
  unfold next
  split
  · decide
  · rw [if_neg (by omega)]; decide

/-- a bit laid behind the last one may be missing -/
theorem un_drop (u : List Bool) (c : Bool) (s : List Bool) (h : calm (0, false) (u ++ [c])) (h5 : (run (0, false) u).1 = 5) (hs : unstuff (u ++ [c]) = (s, -1)) : unstuff u = (s, -1) := by
  have hc := calm_take h
  have hb := calm_run h
  rw [run_append, run_cons, run_nil] at hb
  have e : unstuff (u ++ [c]) = unB (run (0, false) u) (unstuff u).1 (0 + u.length) [c] := un_append u [c] _ _ _ hc
  rw [e] at hs
  unfold unB at hs
  rw [if_neg (by omega), if_pos h5] at hs
  unfold unB at hs
  have h1 : (unstuff u).1 = s := congrArg Prod.fst hs
  have h2 : (unstuff u).2 = -1 := un_calm u _ _ _ hc
  exact Prod.ext h1 h2
theorem run_five (r : Nat × Bool) (p : List Bool) (b : Bool) : 5 ≤ (run r (p ++ [b, b, b, b, b])).1 := by
  rw [run_append]
  generalize run r p = q
  have hs : ∀ n, 0 < n → step (n, b) b = (n + 1, b) := fun n hn => by unfold step; rw [if_pos ⟨hn, rfl⟩]
  have hp := step_pos q b
  have h1 : step q b = ((step q b).1, b) := Prod.ext rfl (step_snd q b)
  generalize (step q b).1 = n at *
  show 5 ≤ (run q [b, b, b, b, b]).1
  rw [run_cons, h1, run_cons, hs n hp, run_cons, hs _ (by omega), run_cons, hs _ (by omega), run_cons, hs _ (by omega), run_nil]
  show 5 ≤ n + 1 + 1 + 1 + 1
  omega

/-- the run at the end, counted from the end on -/
theorem run_tail (t : List Bool) : ∀ j, j < (run (0, false) t).1 → t.reverse[j]? = some (run (0, false) t).2 := by
  intro j
  rcases List.eq_nil_or_concat t with rfl | ⟨u, c, rfl⟩
  · intro h; exact absurd h (Nat.not_lt_zero j)
  · rw [List.concat_eq_append]
    have key : ∀ (u : List Bool) (c : Bool) (j : Nat), j < (run (0, false) (u ++ [c])).1 → (u ++ [c]).reverse[j]? = some c := by
      intro u
      induction hn : u.length generalizing u with
      | zero =>
        intro c j h
        obtain rfl : u = [] := List.eq_nil_of_length_eq_zero hn
        have : (run (0, false) ([] ++ [c])).1 = 1 := by show (step (0, false) c).1 = 1; rw [step_zero]
        rw [this] at h
        obtain rfl : j = 0 := by omega
        rfl
      | succ n ih =>
        intro c j h
        cases j with
        | zero => simp
        | succ j =>
          rcases List.eq_nil_or_concat u with rfl | ⟨v, d, rfl⟩
          · simp at hn
          · rw [List.concat_eq_append] at *
            have hl : v.length = n := by simpa using hn
            have hd : (run (0, false) (v ++ [d])).2 = d := by rw [run_append, run_cons, run_nil, step_snd]
            rw [run_append, run_cons, run_nil] at h
            unfold step at h
            split at h
            · rename_i hc
              have hcd : d = c := by rw [← hd]; exact hc.2
              subst hcd
              have := ih v hl d j (by simpa using h)
              rw [List.reverse_append, List.reverse_cons, List.reverse_nil, List.nil_append, List.singleton_append, List.getElem?_cons_succ]
              exact this
            · exact absurd h (by simp)
    intro h
    rw [key u c j h, run_append, run_cons, run_nil, step_snd]
theorem run_stop (t : List Bool) (h : (run (0, false) t).1 < t.length) : ∃ b, t.reverse[(run (0, false) t).1]? = some b ∧ b ≠ (run (0, false) t).2 := by
  have key : ∀ (n : Nat) (t : List Bool), t.length = n → (run (0, false) t).1 < t.length → ∃ b, t.reverse[(run (0, false) t).1]? = some b ∧ b ≠ (run (0, false) t).2 := by
    intro n
    induction n with
    | zero => intro t hn h; omega
    | succ n ih =>
      intro t hn h
      rcases List.eq_nil_or_concat t with rfl | ⟨u, c, rfl⟩
      · simp at hn
      · rw [List.concat_eq_append] at *
        have hl : u.length = n := by simpa using hn
        rw [run_append, run_cons, run_nil] at *
        rcases List.eq_nil_or_concat u with rfl | ⟨v, d, rfl⟩
        · rw [run_nil, step_zero] at h; simp at h
        · rw [List.concat_eq_append] at *
          have hd : (run (0, false) (v ++ [d])).2 = d := by rw [run_append, run_cons, run_nil, step_snd]
          by_cases hc : d = c
          · subst hc
            have hp : 0 < (run (0, false) (v ++ [d])).1 := by rw [run_append, run_cons, run_nil]; exact step_pos _ _
            have hs : step (run (0, false) (v ++ [d])) d = ((run (0, false) (v ++ [d])).1 + 1, d) := by unfold step; rw [if_pos ⟨hp, hd⟩]
            rw [hs] at h ⊢
            obtain ⟨b, h1, h2⟩ := ih (v ++ [d]) hl (by simpa using h)
            refine ⟨b, ?_, by rw [hd] at h2; exact h2⟩
            rw [List.reverse_append, List.reverse_cons, List.reverse_nil, List.nil_append, List.singleton_append, List.getElem?_cons_succ]
            exact h1
          · have hs : step (run (0, false) (v ++ [d])) c = (1, c) := by unfold step; rw [if_neg]; intro h2; exact hc (hd ▸ h2.2)
            rw [hs]
            exact ⟨d, by simp, hc⟩
  exact key _ t rfl h

/-- the opposite bits -/
def neg (r : Nat × Bool) : Nat × Bool := (r.1, !r.2)
theorem step_neg (r : Nat × Bool) (c : Bool) : step (neg r) (!c) = neg (step r c) := by
  obtain ⟨n, b⟩ := r
  unfold step neg
  by_cases h : 0 < n ∧ b = c
  · rw [if_pos ⟨h.1, by rw [h.2]⟩, if_pos h]
  · rw [if_neg, if_neg h]
    intro h2
    exact h ⟨h2.1, by have := h2.2; revert this; cases b <;> cases c <;> simp⟩
theorem stB_neg (bs : List Bool) : ∀ r, stB (neg r) [] (bs.map not) = (stB r [] bs).map not := by
  induction bs with
  | nil => intro r; rfl
  | cons c t ih =>
    intro r
    have e1 : (step (neg r) (!c)).1 = (step r c).1 := by rw [step_neg]; rfl
    by_cases h : (step r c).1 = 5
    · rw [List.map_cons, stB_cons5 (neg r) (!c) _ (by rw [e1]; exact h), stB_cons5 r c t h]
      have := ih (1, !c)
      simp only [List.map_cons]
      rw [← this]; rfl
    · rw [List.map_cons, stB_cons (neg r) (!c) _ (by rw [e1]; exact h), stB_cons r c t h]
      rw [List.map_cons, ← ih, step_neg]
theorem stuff_neg (bs : List Bool) : stuff (bs.map not) = (stuff bs).map not := by
  unfold stuff
  rw [← stB_neg]
  cases bs with
  | nil => rfl
  | cons c t =>
    have e1 : step (0, false) (!c) = (1, !c) := step_zero _ _
    have e2 : step (neg (0, false)) (!c) = (1, !c) := step_zero _ _
    rw [List.map_cons, stB_cons _ _ _ (by rw [e1]; simp), stB_cons _ _ _ (by rw [e2]; simp), e1, e2]
theorem unB_neg (bs : List Bool) : ∀ r o i, unB (neg r) (o.map not) i (bs.map not) = ((unB r o i bs).1.map not, (unB r o i bs).2) := by
  induction bs with
  | nil => intro r o i; rfl
  | cons c t ih =>
    intro r o i
    have e1 : (step (neg r) (!c)).1 = (step r c).1 := by rw [step_neg]; rfl
    rw [List.map_cons]
    conv => lhs; unfold unB
    conv => rhs; unfold unB
    rw [e1]
    by_cases h : (step r c).1 = 6
    · rw [if_pos h, if_pos h]
    · rw [if_neg h, if_neg h, step_neg]
      have e2 : (if (neg r).1 = 5 then o.map not else o.map not ++ [!c]) = (if r.1 = 5 then o else o ++ [c]).map not := by
        show (if r.1 = 5 then _ else _) = _
        split <;> simp
      rw [e2, ih]
theorem unstuff_neg (bs : List Bool) : unstuff (bs.map not) = ((unstuff bs).1.map not, (unstuff bs).2) := by
  unfold unstuff
  rw [← unB_neg]
  cases bs with
  | nil => rfl
  | cons c t =>
    have e1 : step (0, false) (!c) = (1, !c) := step_zero _ _
    have e2 : step (neg (0, false)) (!c) = (1, !c) := step_zero _ _
    rw [List.map_cons]
    conv => lhs; unfold unB
    conv => rhs; unfold unB
    rw [e1, e2]
    rfl
theorem run_neg (bs : List Bool) : ∀ r, run (neg r) (bs.map not) = neg (run r bs) := by
  induction bs with
  | nil => intro r; rfl
  | cons c t ih => intro r; rw [List.map_cons, run_cons, run_cons, step_neg, ih]
theorem run_neg0 (c : Bool) (t : List Bool) : run (0, false) ((c :: t).map not) = neg (run (0, false) (c :: t)) := by
  rw [← run_neg, List.map_cons, run_cons, run_cons, step_zero]
  show _ = run (step (0, true) (!c)) _
  rw [step_zero]
theorem next_neg (bs : List Bool) : (next bs < 0 ∧ next bs = next (bs.map not)) ∨ (0 ≤ next bs ∧ next (bs.map not) = 1 - next bs) := by
  unfold next
  rw [unstuff_neg]
  cases bs with
  | nil => left; decide
  | cons c t =>
    rw [run_neg0]
    generalize (unstuff (c :: t)).2 = u
    obtain ⟨n, b⟩ := run (0, false) (c :: t)
    unfold neg
    by_cases h : 0 ≤ u
    · left; simp [h]
    · by_cases h5 : n = 5
      · right; cases b <;> simp [h, h5]
      · left; simp [h, h5]

/-- rows in which no five are alike -/
def low (r : Nat × Bool) (bs : List Bool) : Prop := ∀ k, (run r (bs.take k)).1 < 5
theorem low_tail {r : Nat × Bool} {c : Bool} {t : List Bool} (h : low r (c :: t)) : low (step r c) t := fun k => by
  have := h (k + 1); rwa [List.take_succ_cons, run_cons] at this
theorem low_cons {r : Nat × Bool} {c : Bool} {t : List Bool} (h0 : r.1 < 5) (h : low (step r c) t) : low r (c :: t) := by
  intro k
  cases k with
  | zero => exact h0
  | succ k => rw [List.take_succ_cons, run_cons]; exact h k
theorem stB_low (bs : List Bool) : ∀ r, low r bs → stB r [] bs = bs := by
  induction bs with
  | nil => intro r _; rfl
  | cons c t ih =>
    intro r h
    have h1 : (step r c).1 < 5 := low_tail h 0
    rw [stB_cons r c t (by omega), ih _ (low_tail h)]
theorem unB_low (bs : List Bool) : ∀ r i, low r bs → unB r [] i bs = (bs, -1) := by
  induction bs with
  | nil => intro r i _; rfl
  | cons c t ih =>
    intro r i h
    have h0 : r.1 < 5 := h 0
    have h1 : (step r c).1 < 5 := low_tail h 0
    unfold unB
    rw [if_neg (by omega), if_neg (by omega), unB_out, ih _ _ (low_tail h)]
    simp
theorem next_low (bs : List Bool) (h : low (0, false) bs) : next bs = -1 := by
  have h1 := unB_low bs (0, false) 0 h
  have h2 : (run (0, false) bs).1 < 5 := by have := h bs.length; rwa [List.take_of_length_le (Nat.le_refl _)] at this
  unfold next unstuff
  rw [h1, if_neg (by simp), if_neg (by omega)]
def quiet (l : List Bool) : List Bool := l.flatMap fun b => if b then [false, true, true] else [false, true]
theorem low_quiet (l : List Bool) : ∀ n, n < 4 → low (n, true) (quiet l) := by
  induction l with
  | nil => intro n hn k; simp [quiet, run]; omega
  | cons b t ih =>
    intro n hn
    have e1 : step (n, true) false = (1, false) := by unfold step; rw [if_neg (by simp)]
    have e2 : step (1, false) true = (1, true) := by unfold step; rw [if_neg (by simp)]
    have e3 : step (1, true) true = (2, true) := by unfold step; rw [if_pos (by simp)]
    cases b
    · have e : quiet (false :: t) = false :: true :: quiet t := by simp [quiet]
      rw [e]
      refine low_cons (by simp; omega) ?_
      rw [e1]
      refine low_cons (by simp) ?_
      rw [e2]
      exact ih 1 (by decide)
    · have e : quiet (true :: t) = false :: true :: true :: quiet t := by simp [quiet]
      rw [e]
      refine low_cons (by simp; omega) ?_
      rw [e1]
      refine low_cons (by simp) ?_
      rw [e2]
      refine low_cons (by simp) ?_
      rw [e3]
      exact ih 2 (by decide)
theorem low_quiet0 (l : List Bool) : low (0, false) (quiet l) := by
  have h := low_quiet l 0 (by decide)
  intro k
  cases k with
  | zero => simp [run]
  | succ k =>
    have h1 := h (k + 1)
    cases hq : quiet l with
    | nil => simp [run]
    | cons c t =>
      rw [hq] at h1
      rw [List.take_succ_cons, run_cons, step_zero] at h1 ⊢
      exact h1

/-- rows that make most bits be laid -/
def worst (c : Bool) (n : Nat) : List Bool := (List.range n).map fun i => if i < 5 ∨ (i - 5) / 4 % 2 = 1 then c else !c
theorem worst_len : ∀ n, n < 256 → ∀ c : Bool, (stuff (worst c n)).length = most n := by decide +kernel
end Go.Proofs.Ytcgpnnmceijmjab.Sm
