/- Plain mathematics of what is at a time: the window of a unit, its sign, what is free; nothing of the program is in it. -/
import Derived.Test.YtmfehobpbpkcaaaDoorLn
namespace Go.Proofs.YtmfehobpbpkcaaaDoor.Wq
open Mx
set_option linter.unusedVariables false
/-- Whether a window comes in a cycle and has a unit. -/
def has (c u : Int) (x : Win) : Bool := comes x.cycle x.rep c && (decide (x.start ≤ u) && decide (u < x.fin))
def atW (m : M) (c u : Int) : Int := if (Lq.check m).2 = 0 then firstAt (has c u) m.windows else -1
def owner (m : M) (c u : Int) : Int := match Lq.getW m (atW m c u) with
  | some x => if x.kind = 1 then (match Lq.noMsg.getMsg m x.msg with | some y => y.owner | none => -1) else -1
  | none => -1
def kindOf (m : M) (c u : Int) : Int := match Lq.getW m (atW m c u) with | some x => x.kind | none => 0
def sgn (k : Int) : UInt8 := if k = 1 then 69 else if k = 2 then 65 else if k = 3 then 70 else 45
def kinds (m : M) (c : Int) : List UInt8 := if (Lq.check m).2 = 0 then (List.range m.length.toNat).map (fun u : Nat => sgn (kindOf m c (u : Int))) else []
def loose (k : Int) : Bool := !(k == 1) && !(k == 2)
def free (m : M) (c : Int) : Nat := if (Lq.check m).2 = 0 then (List.range m.length.toNat).countP (fun u : Nat => loose (kindOf m c (u : Int))) else 0
theorem firstAt_cases {α : Type} (p : α → Bool) (l : List α) : (firstAt p l = -1 ∧ ∀ x ∈ l, p x = false) ∨ ∃ (i : Nat) (x : α), firstAt p l = (i : Int) ∧ l[i]? = some x ∧ p x = true := by
  unfold firstAt
  cases e : l.findIdx? p with
  | none => exact Or.inl ⟨rfl, fun x hx => List.findIdx?_eq_none_iff.1 e x hx⟩
  | some i =>
    obtain ⟨hi, hpi, hb⟩ := List.findIdx?_eq_some_iff_getElem.1 e
    exact Or.inr ⟨i, _, rfl, List.getElem?_eq_getElem hi, hpi⟩
/-- What is known of a unit of what passes. -/
theorem at_cases {m : M} (h : (Lq.check m).2 = 0) (c u : Int) : (atW m c u = -1 ∧ Lq.getW m (atW m c u) = none ∧ ∀ x ∈ m.windows, has c u x = false) ∨ ∃ (i : Nat) (x : Win), atW m c u = (i : Int) ∧ Lq.getW m (atW m c u) = some x ∧ m.windows[i]? = some x ∧ has c u x = true := by
  unfold atW
  rw [if_pos h]
  rcases firstAt_cases (has c u) m.windows with ⟨h1, h2⟩ | ⟨i, x, h1, h2, h3⟩
  · refine Or.inl ⟨h1, ?_, h2⟩
    rw [h1]
    rfl
  · refine Or.inr ⟨i, x, h1, ?_, h2, h3⟩
    rw [h1]
    unfold Lq.getW
    rw [if_pos (Int.natCast_nonneg _), Int.toNat_natCast, h2]
theorem countP_or {α : Type} {p q : α → Bool} : ∀ {l : List α}, (∀ a ∈ l, p a = true → q a = false) → l.countP (fun a => p a || q a) = l.countP p + l.countP q
  | [], _ => rfl
  | a :: l, h => by
    rw [List.countP_cons, List.countP_cons, List.countP_cons, countP_or (fun b hb => h b (List.mem_cons_of_mem _ hb))]
    cases hp : p a
    · simp; omega
    · rw [h a List.mem_cons_self hp]; simp; omega
theorem count_from {s f : Int} (h0 : 0 ≤ s) (h1 : s ≤ f) : ∀ n : Nat, (((List.range n).countP (fun u : Nat => decide (s ≤ (u : Int)) && decide ((u : Int) < f)) : Nat) : Int) = min f (n : Int) - min s (n : Int)
  | 0 => by simp; omega
  | n + 1 => by
    have ih := count_from h0 h1 n
    rw [List.range_succ, List.countP_append, List.countP_singleton]
    by_cases a : s ≤ (n : Int)
    · by_cases b : (n : Int) < f
      · rw [decide_eq_true a, decide_eq_true b]
        simp only [Bool.and_self, if_true]
        omega
      · rw [decide_eq_false b, Bool.and_false]
        simp only [Bool.false_eq_true, if_false]
        omega
    · rw [decide_eq_false a, Bool.false_and]
      simp only [Bool.false_eq_true, if_false]
      omega
/-- How many units of a cycle a window takes, unless it is free. -/
def wid (c : Int) (x : Win) : Int := if x.kind != 3 && comes x.cycle x.rep c then x.fin - x.start else 0
def cov (c u : Int) (ws : List Win) : Bool := ws.any (fun x => x.kind != 3 && has c u x)
def apart (c : Int) (x y : Win) : Prop := comes x.cycle x.rep c = true → comes y.cycle y.rep c = true → ¬ (x.start < y.fin ∧ y.start < x.fin)
theorem cov_count {c : Int} {L : Nat} : ∀ (ws : List Win), (∀ x ∈ ws, 0 ≤ x.start ∧ x.start ≤ x.fin ∧ x.fin ≤ (L : Int)) → ws.Pairwise (apart c) → (((List.range L).countP (fun u : Nat => cov c (u : Int) ws) : Nat) : Int) = (ws.map (wid c)).sum
  | [], _, _ => by simp [cov]
  | x :: ws, h, hp => by
    have ih := cov_count ws (fun y hy => h y (List.mem_cons_of_mem _ hy)) (List.pairwise_cons.1 hp).2
    have hx := h x List.mem_cons_self
    have e : (fun u : Nat => cov c (u : Int) (x :: ws)) = fun u : Nat => (x.kind != 3 && has c (u : Int) x) || cov c (u : Int) ws := by
      funext u
      unfold cov
      rw [List.any_cons]
    rw [e, countP_or (p := fun u : Nat => x.kind != 3 && has c (u : Int) x) (q := fun u : Nat => cov c (u : Int) ws), List.map_cons, List.sum_cons, Int.natCast_add, ih]
    · congr 1
      unfold wid has
      cases hk : x.kind != 3
      · simp
      · cases hc : comes x.cycle x.rep c
        · simp
        · simp only [Bool.true_and, if_true]
          rw [count_from hx.1 hx.2.1]
          omega
    · intro u _ hu
      simp only [Bool.and_eq_true, has, decide_eq_true_eq] at hu
      cases hq : cov c (u : Int) ws with
      | false => rfl
      | true =>
        obtain ⟨y, hy, hyu⟩ := List.any_eq_true.1 hq
        simp only [Bool.and_eq_true, has, decide_eq_true_eq] at hyu
        exact absurd ⟨by omega, by omega⟩ ((List.pairwise_cons.1 hp).1 y hy hu.2.1 hyu.2.1)
theorem apart_of {m : M} (h : Lq.Passes m) {c : Nat} (hc : (c : Int) < m.cycles) : m.windows.Pairwise (apart (c : Int)) := by
  have hcy := Lq.cyc_of h.is
  rw [List.pairwise_iff_getElem]
  intro i j hi hj hij h1 h2 ⟨h3, h4⟩
  exact (Lq.wx_of h (List.getElem?_eq_getElem hj)).apart hij (List.getElem?_eq_getElem hi) (by omega) hc h1 h2 h3 h4
theorem once {m : M} (h : Lq.Passes m) {c : Nat} (hc : (c : Int) < m.cycles) {u : Int} {i j : Nat} {x y : Win} (hx : m.windows[i]? = some x) (hy : m.windows[j]? = some y) (h1 : has (c : Int) u x = true) (h2 : has (c : Int) u y = true) : i = j := by
  simp only [has, Bool.and_eq_true, decide_eq_true_eq] at h1 h2
  have hcy := Lq.cyc_of h.is
  rcases Nat.lt_trichotomy i j with hl | hl | hl
  · exact absurd ((Lq.wx_of h hy).apart hl hx (by omega) hc h1.1 h2.1 (by omega)) (fun k => k (by omega))
  · exact hl
  · exact absurd ((Lq.wx_of h hx).apart hl hy (by omega) hc h2.1 h1.1 (by omega)) (fun k => k (by omega))
theorem cov_kind {m : M} (h : Lq.Passes m) {c : Nat} (hc : (c : Int) < m.cycles) (u : Int) : cov (c : Int) u m.windows = !loose (kindOf m (c : Int) u) := by
  have h0 : (Lq.check m).2 = 0 := by rw [Lq.check_of h]
  unfold kindOf
  rcases at_cases h0 (c : Int) u with ⟨_, h2, h3⟩ | ⟨i, x, _, h2, h3, h4⟩
  · rw [h2]
    show _ = false
    unfold cov
    rw [List.any_eq_false]
    intro y hy
    rw [h3 y hy]
    simp
  · rw [h2]
    show _ = !loose x.kind
    have hk := (Lq.wx_of h h3).kind
    unfold cov loose
    by_cases hf : x.kind = 3
    · have e : (!(!(x.kind == 1) && !(x.kind == 2))) = false := by rw [hf]; rfl
      rw [e, List.any_eq_false]
      intro y hy
      obtain ⟨j, hj⟩ := List.getElem?_of_mem hy
      intro hq
      simp only [Bool.and_eq_true] at hq
      have := once h hc h3 hj h4 hq.2
      subst this
      rw [h3] at hj
      injection hj with hj
      rw [← hj, hf] at hq
      simp at hq
    · have e : (!(!(x.kind == 1) && !(x.kind == 2))) = true := by
        have : x.kind = 1 ∨ x.kind = 2 := by omega
        rcases this with k | k <;> rw [k] <;> rfl
      rw [e, List.any_eq_true]
      exact ⟨x, List.mem_of_getElem? h3, by rw [h4, Bool.and_true]; simpa [bne] using hf⟩
/-- Units of all windows of a cycle, and those that have none, are all units. -/
theorem sums {m : M} (h : Lq.Passes m) {c : Nat} (hc : (c : Int) < m.cycles) : (m.windows.map (wid (c : Int))).sum + (free m (c : Int) : Int) = m.length := by
  have h0 : (Lq.check m).2 = 0 := by rw [Lq.check_of h]
  have hcy := Lq.cyc_of h.is
  obtain ⟨L, hL⟩ : ∃ L : Nat, m.length = (L : Int) := Int.eq_ofNat_of_zero_le (by omega)
  have hw := cov_count (c := (c : Int)) (L := L) m.windows (fun x hx => by
    obtain ⟨i, hi⟩ := List.getElem?_of_mem hx
    have := (Lq.wx_of h hi).st
    omega) (apart_of h hc)
  unfold free
  rw [if_pos h0, hL, Int.toNat_natCast, ← hw]
  have e : (fun u : Nat => cov (c : Int) (u : Int) m.windows) = fun u : Nat => !loose (kindOf m (c : Int) (u : Int)) := by
    funext u
    exact cov_kind h hc _
  rw [e]
  have := List.length_eq_countP_add_countP (fun u : Nat => loose (kindOf m (c : Int) (u : Int))) (l := List.range L)
  rw [List.length_range] at this
  have e2 : (List.range L).countP (fun u : Nat => !loose (kindOf m (c : Int) (u : Int))) = (List.range L).countP (fun a : Nat => decide ¬ loose (kindOf m (c : Int) (a : Int)) = true) := by
    congr 1
    funext u
    cases loose (kindOf m (c : Int) (u : Int)) <;> rfl
  rw [e2]
  omega
theorem comes_again {m : M} {x : Win} (h : Mx.is m = true) (hx : x ∈ m.windows) {c : Int} (h0 : 0 ≤ c) : comes x.cycle x.rep (c + m.cycles) = comes x.cycle x.rep c := by
  have hw := Lq.win_of h hx
  have hs : scal m = true := by
    unfold Mx.is at h
    simp only [Bool.and_eq_true] at h
    exact h.1.1.1.1
  simp only [winOk, within, power, Bool.and_eq_true, Bool.or_eq_true, decide_eq_true_eq, beq_iff_eq] at hw
  simp only [scal, within, power, Bool.and_eq_true, Bool.or_eq_true, decide_eq_true_eq, beq_iff_eq] at hs
  have hcy := Lq.cyc_of h
  rw [Lq.comes_mod (by omega) (by omega) (by omega), Lq.comes_mod h0 (by omega) (by omega)]
  have e : (c + m.cycles) % x.rep = c % x.rep := by
    obtain ⟨⟨⟨⟨⟨⟨⟨k1, k2⟩, k3⟩, k4⟩, ⟨k5, k6⟩⟩, k7⟩, k8⟩, k9⟩ := hw
    have hm : m.cycles % x.rep = 0 := by
      have hp : m.cycles = 1 ∨ m.cycles = 2 ∨ m.cycles = 4 ∨ m.cycles = 8 := by omega
      have hr : x.rep = 1 ∨ x.rep = 2 ∨ x.rep = 4 ∨ x.rep = 8 := by omega
      rcases hp with p | p | p | p <;> rcases hr with r | r | r | r <;> rw [p, r] <;> first | rfl | omega
    rw [Int.add_emod, hm, Int.add_zero, Int.emod_emod]
  rw [e]
theorem firstAt_congr {α : Type} {p q : α → Bool} {l : List α} (h : ∀ x ∈ l, p x = q x) : firstAt p l = firstAt q l := by
  unfold firstAt
  have : l.findIdx? p = l.findIdx? q := by
    induction l with
    | nil => rfl
    | cons a l ih =>
      rw [List.findIdx?_cons, List.findIdx?_cons, h a List.mem_cons_self, ih (fun x hx => h x (List.mem_cons_of_mem _ hx))]
  rw [this]
theorem at_again {m : M} (h : Lq.Passes m) {c : Int} (h0 : 0 ≤ c) (u : Int) : atW m (c + m.cycles) u = atW m c u := by
  unfold atW
  rw [firstAt_congr (q := has c u) (fun x hx => by unfold has; rw [comes_again h.is hx h0])]
theorem kinds_again {m : M} (h : Lq.Passes m) {c : Int} (h0 : 0 ≤ c) : kinds m (c + m.cycles) = kinds m c := by
  unfold kinds kindOf
  simp only [at_again h h0]
theorem at_none {m : M} (h : Lq.Passes m) (c u : Int) (hu : u < 0 ∨ m.length ≤ u) : atW m c u = -1 := by
  have h0 : (Lq.check m).2 = 0 := by rw [Lq.check_of h]
  rcases at_cases h0 c u with ⟨h1, _⟩ | ⟨i, x, _, _, h3, h4⟩
  · exact h1
  · have := (Lq.wx_of h h3).st
    simp only [has, Bool.and_eq_true, decide_eq_true_eq] at h4
    omega
theorem at_fail {m : M} (h : (Lq.check m).2 ≠ 0) (c u : Int) : atW m c u = -1 := if_neg h
end Go.Proofs.YtmfehobpbpkcaaaDoor.Wq
