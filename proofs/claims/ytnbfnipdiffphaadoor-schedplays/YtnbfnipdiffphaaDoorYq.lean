/- Plain mathematics of what each node does when: triggers, plans, what is due; nothing of the program is in it. -/
import Derived.Test.YtnbfnipdiffphaaDoorLn
namespace Go.Proofs.YtnbfnipdiffphaaDoor.Yq
open Mx
set_option linter.unusedVariables false
structure Tr where
  kind : Int
  at_ : Int
  cycle : Int
  rep : Int
  msg : Int
  til : Int
deriving DecidableEq
def beat (m : M) (r : Int) : Int := if Mx.is m then (if r < 0 ∨ 99 < r then m.length else m.length + (r + 1) * Lq.step m) else 0
def watch (m : M) : Int := if Mx.is m then m.length + ((m.masters.length : Int) + 2) * Lq.step m else 0
def le (t x : Tr) : Bool := decide (x.at_ ≤ t.at_)
/-- Behind all whose time isn't greater. -/
def lay (l : List Tr) (t : Tr) : List Tr := l.takeWhile (le t) ++ t :: l.dropWhile (le t)
/-- What a node does in a window. -/
def trig (m : M) (who : Int) (x : Win) : Option Tr :=
  if x.kind = 1 then match m.messages[x.msg.toNat]? with
    | some y => if y.owner = who then some ⟨1, x.start, x.cycle, x.rep, x.msg, x.start + m.enable⟩ else some ⟨3, x.fin - 1, x.cycle, x.rep, x.msg, 0⟩
    | none => none
  else if x.kind = 2 then some ⟨2, x.start, x.cycle, x.rep, x.msg, x.fin - Lq.step m⟩ else none
def put (m : M) (who : Int) (l : List Tr) (x : Win) : List Tr := match trig m who x with | some t => lay l t | none => l
def wins (m : M) (who : Int) (ws : List Win) : List Tr := ws.foldl (put m who) []
def refs (m : M) (who : Int) (l : List Tr) : List Tr := if 0 ≤ rank m who then lay (lay l ⟨4, m.length, 0, 1, 0, 0⟩) ⟨4, beat m (rank m who), 0, 1, 1, 0⟩ else l
def plan (m : M) (who : Int) : List Tr := if (Lq.check m).2 = 0 then lay (refs m who (wins m who m.windows)) ⟨5, watch m, 0, 1, 0, 0⟩ else []
def isDue (c lo hi : Int) (t : Tr) : Bool := decide (lo < t.at_) && decide (t.at_ ≤ hi) && comes t.cycle t.rep c
def due (l : List Tr) (c lo hi : Int) : List Tr := l.filter (isDue c lo hi)
theorem lay_perm (l : List Tr) (t : Tr) : (lay l t).Perm (t :: l) := by
  unfold lay
  refine List.perm_middle.trans ?_
  rw [List.takeWhile_append_dropWhile]
theorem mem_lay {l : List Tr} {t x : Tr} : x ∈ lay l t ↔ x = t ∨ x ∈ l := by
  rw [(lay_perm l t).mem_iff, List.mem_cons]
theorem len_lay (l : List Tr) (t : Tr) : (lay l t).length = l.length + 1 := by
  rw [(lay_perm l t).length_eq, List.length_cons]
/-- Sorted by time. -/
def Srt (l : List Tr) : Prop := l.Pairwise (fun x y => x.at_ ≤ y.at_)
theorem takeWhile_le {t : Tr} : ∀ {l : List Tr} {x : Tr}, x ∈ l.takeWhile (le t) → x.at_ ≤ t.at_
  | a :: l, x, h => by
    rw [List.takeWhile_cons] at h
    split at h
    · rename_i hc
      rcases List.mem_cons.1 h with rfl | h
      · exact of_decide_eq_true hc
      · exact takeWhile_le h
    · cases h
theorem srt_lay {l : List Tr} {t : Tr} (h : Srt l) : Srt (lay l t) := by
  unfold Srt lay at *
  have h0 := h
  rw [← List.takeWhile_append_dropWhile (p := le t) (l := l), List.pairwise_append] at h0
  obtain ⟨h1, h2, h3⟩ := h0
  have hd : ∀ y ∈ l.dropWhile (le t), t.at_ ≤ y.at_ := by
    intro y hy
    cases e : l.dropWhile (le t) with
    | nil => rw [e] at hy; cases hy
    | cons z zs =>
      have hz : le t z = false := by
        have := List.head?_dropWhile_not (le t) l
        rw [e] at this
        simpa using this
      have hzt : t.at_ < z.at_ := by simpa [le] using hz
      rw [e] at hy h2
      rcases List.mem_cons.1 hy with rfl | hy
      · omega
      · have := (List.pairwise_cons.1 h2).1 y hy
        omega
  rw [List.pairwise_append]
  refine ⟨h1, List.pairwise_cons.2 ⟨hd, h2⟩, fun x hx y hy => ?_⟩
  rcases List.mem_cons.1 hy with rfl | hy
  · exact takeWhile_le hx
  · exact h3 x hx y hy
theorem srt_wins (m : M) (who : Int) (ws : List Win) : Srt (wins m who ws) := by
  have : ∀ (ws : List Win) (l : List Tr), Srt l → Srt (ws.foldl (put m who) l) := by
    intro ws
    induction ws with
    | nil => intro l h; exact h
    | cons x ws ih =>
      intro l h
      refine ih _ ?_
      unfold put
      split
      · exact srt_lay h
      · exact h
  exact this ws [] List.Pairwise.nil
theorem srt_plan (m : M) (who : Int) : Srt (plan m who) := by
  unfold plan
  split
  · refine srt_lay ?_
    unfold refs
    split
    · exact srt_lay (srt_lay (srt_wins _ _ _))
    · exact srt_wins _ _ _
  · exact List.Pairwise.nil
/-- How many are of a kind. -/
def cnt (k : Int) (l : List Tr) : Nat := l.countP (fun t => t.kind == k)
theorem cnt_lay (k : Int) (l : List Tr) (t : Tr) : cnt k (lay l t) = cnt k l + (if t.kind = k then 1 else 0) := by
  unfold cnt
  rw [(lay_perm l t).countP_eq, List.countP_cons]
  simp
def kindOf (m : M) (who : Int) (x : Win) : Int := match trig m who x with | some t => t.kind | none => 0
theorem cnt_wins (k : Int) (hk : k ≠ 0) (m : M) (who : Int) (ws : List Win) : cnt k (wins m who ws) = ws.countP (fun x => kindOf m who x == k) := by
  have : ∀ (ws : List Win) (l : List Tr), cnt k (ws.foldl (put m who) l) = cnt k l + ws.countP (fun x => kindOf m who x == k) := by
    intro ws
    induction ws with
    | nil => intro l; simp
    | cons x ws ih =>
      intro l
      rw [List.foldl_cons, ih, List.countP_cons]
      unfold put kindOf
      cases h : trig m who x with
      | none =>
        dsimp only
        have : ((0 : Int) == k) = false := beq_eq_false_iff_ne.2 (fun e => hk e.symm)
        rw [if_neg (by rw [this]; decide)]
        omega
      | some t =>
        dsimp only
        rw [cnt_lay]
        by_cases e : t.kind = k
        · rw [if_pos e, if_pos (beq_iff_eq.2 e)]
          omega
        · rw [if_neg e, if_neg (by simpa using e)]
          omega
  have h := this ws []
  unfold wins
  rw [h]
  simp [cnt]
theorem cnt_plan {m : M} (h : (Lq.check m).2 = 0) (k : Int) (hk : k ≠ 0) (who : Int) : cnt k (plan m who) = m.windows.countP (fun x => kindOf m who x == k) + (if 0 ≤ rank m who then (if k = 4 then 2 else 0) else 0) + (if k = 5 then 1 else 0) := by
  unfold plan
  rw [if_pos h, cnt_lay]
  dsimp only
  have e5 : (if (5 : Int) = k then 1 else 0) = (if k = 5 then 1 else 0) := by
    by_cases e : k = 5
    · rw [if_pos e.symm, if_pos e]
    · rw [if_neg (fun h => e h.symm), if_neg e]
  rw [e5]
  congr 1
  unfold refs
  by_cases hr : 0 ≤ rank m who
  · rw [if_pos hr, if_pos hr, cnt_lay, cnt_lay, cnt_wins k hk]
    dsimp only
    by_cases e : k = 4
    · rw [if_pos e.symm, if_pos e]
    · rw [if_neg (fun h => e h.symm), if_neg e]
  · rw [if_neg hr, if_neg hr, cnt_wins k hk]
    omega
/-- All that so many nodes do. -/
def tot (f : Nat → Nat) : Nat → Nat
  | 0 => 0
  | n + 1 => tot f n + f n
theorem tot_add (f g : Nat → Nat) (n : Nat) : tot (fun i => f i + g i) n = tot f n + tot g n := by
  induction n with
  | zero => rfl
  | succ n ih => simp only [tot, ih]; omega
theorem tot_const (c n : Nat) : tot (fun _ => c) n = c * n := by
  induction n with
  | zero => rfl
  | succ n ih => simp only [tot, ih, Nat.mul_succ]
theorem tot_congr {f g : Nat → Nat} {n : Nat} (h : ∀ i, i < n → f i = g i) : tot f n = tot g n := by
  induction n with
  | zero => rfl
  | succ n ih => simp only [tot]; rw [ih (fun i hi => h i (by omega)), h n (by omega)]
/-- One of them alone. -/
theorem tot_one {k n : Nat} (hk : k < n) : tot (fun i => if i = k then 1 else 0) n = 1 := by
  induction n with
  | zero => omega
  | succ n ih =>
    simp only [tot]
    by_cases e : k = n
    · subst e
      rw [if_pos rfl, tot_congr (g := fun _ => 0) (fun i hi => if_neg (by omega)), tot_const]
      omega
    · rw [ih (by omega), if_neg (fun h => e h.symm)]
theorem tot_zero (n : Nat) : tot (fun _ => 0) n = 0 := by rw [tot_const]; omega
theorem tot_count {α : Type} (p : Nat → α → Bool) (c : α → Nat) (n : Nat) : ∀ (l : List α), (∀ x ∈ l, tot (fun i => if p i x = true then 1 else 0) n = c x) → tot (fun i => l.countP (p i)) n = (l.map c).sum
  | [], _ => by simp only [List.countP_nil, tot_zero, List.map_nil, List.sum_nil]
  | x :: l, h => by
    have ih := tot_count p c n l (fun y hy => h y (List.mem_cons_of_mem _ hy))
    have e : (fun i => (x :: l).countP (p i)) = fun i => l.countP (p i) + (if p i x = true then 1 else 0) := by
      funext i
      rw [List.countP_cons]
    rw [e, tot_add, ih, h x List.mem_cons_self, List.map_cons, List.sum_cons]
    omega
theorem isDue_ways (t : Tr) (c : Int) {lo mid hi : Int} (h1 : lo ≤ mid) (h2 : mid ≤ hi) : (isDue c lo mid t = true ∧ isDue c mid hi t = false ∧ isDue c lo hi t = true) ∨ (isDue c lo mid t = false ∧ isDue c mid hi t = true ∧ isDue c lo hi t = true) ∨ (isDue c lo mid t = false ∧ isDue c mid hi t = false ∧ isDue c lo hi t = false) := by
  unfold isDue
  cases comes t.cycle t.rep c with
  | false => simp
  | true =>
    simp only [Bool.and_true, Bool.and_eq_true, decide_eq_true_eq, Bool.and_eq_false_iff, decide_eq_false_iff_not]
    omega
theorem due_split (l : List Tr) (c : Int) {lo mid hi : Int} (h1 : lo ≤ mid) (h2 : mid ≤ hi) : (due l c lo mid).length + (due l c mid hi).length = (due l c lo hi).length := by
  unfold due
  induction l with
  | nil => rfl
  | cons t l ih =>
    rw [List.filter_cons, List.filter_cons, List.filter_cons]
    rcases isDue_ways t c h1 h2 with ⟨a, b, d⟩ | ⟨a, b, d⟩ | ⟨a, b, d⟩
    · rw [a, b, d]
      simp only [if_true, Bool.false_eq_true, if_false, List.length_cons]
      omega
    · rw [a, b, d]
      simp only [if_true, Bool.false_eq_true, if_false, List.length_cons]
      omega
    · rw [a, b, d]
      simp only [Bool.false_eq_true, if_false]
      exact ih
end Go.Proofs.YtnbfnipdiffphaaDoor.Yq
