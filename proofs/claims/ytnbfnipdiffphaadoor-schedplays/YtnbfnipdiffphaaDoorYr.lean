/- Layer 15: what the plans of a matrix that passes hold, all nodes together; plain. -/
import Derived.Test.YtnbfnipdiffphaaDoorYq
namespace Go.Proofs.YtnbfnipdiffphaaDoor.Yq
open Mx
set_option linter.unusedVariables false
theorem step_pos {m : M} (h : Mx.is m = true) : 1 ≤ Lq.step m ∧ Lq.step m ≤ 5000 := by
  unfold Lq.step
  rw [h, if_pos rfl]
  have h1 := Lq.units_bound14 (u := m.unit) (b := 140)
  have h2 := Lq.cyc_of h
  omega
theorem owner_of {m : M} (h : Lq.Passes m) {k : Nat} {y : Msg} (hy : m.messages[k]? = some y) : 0 ≤ y.owner ∧ y.owner < m.nodes := by
  have h1 := h.owners k (List.getElem?_eq_some_iff.1 hy).1
  unfold Lq.eOwner at h1
  rw [hy] at h1
  dsimp only at h1
  have h2 := h.is
  simp only [Mx.is, Bool.and_eq_true] at h2
  have h3 := List.all_eq_true.1 h2.1.2 y (List.mem_of_getElem? hy)
  simp only [msgOk, within, Bool.and_eq_true, decide_eq_true_eq] at h3
  by_cases hc : m.nodes ≤ y.owner
  · rw [if_pos hc] at h1
    cases h1
  · omega
/-- What is done in a window, by its kind. -/
theorem trig_ways {m : M} (h : Lq.Passes m) {i : Nat} {x : Win} (hx : m.windows[i]? = some x) (who : Int) :
    (x.kind = 1 ∧ ∃ y : Msg, (0 ≤ y.owner ∧ y.owner < m.nodes) ∧ trig m who x = some (if y.owner = who then ⟨1, x.start, x.cycle, x.rep, x.msg, x.start + m.enable⟩ else ⟨3, x.fin - 1, x.cycle, x.rep, x.msg, 0⟩) ∧ ∀ w, trig m w x = some (if y.owner = w then ⟨1, x.start, x.cycle, x.rep, x.msg, x.start + m.enable⟩ else ⟨3, x.fin - 1, x.cycle, x.rep, x.msg, 0⟩)) ∨
    (x.kind = 2 ∧ ∀ w, trig m w x = some ⟨2, x.start, x.cycle, x.rep, x.msg, x.fin - Lq.step m⟩) ∨ (x.kind = 3 ∧ ∀ w, trig m w x = none) := by
  have W := Lq.wx_of h hx
  have hk := W.kind
  by_cases h1 : x.kind = 1
  · left
    obtain ⟨k, y, e, hy, _⟩ := W.ms h1
    have ht : ∀ w, trig m w x = some (if y.owner = w then ⟨1, x.start, x.cycle, x.rep, x.msg, x.start + m.enable⟩ else ⟨3, x.fin - 1, x.cycle, x.rep, x.msg, 0⟩) := fun w => by
      unfold trig
      rw [if_pos h1, e, Int.toNat_natCast, hy]
      dsimp only
      split <;> rfl
    exact ⟨h1, y, owner_of h hy, ht who, ht⟩
  · by_cases h2 : x.kind = 2
    · exact Or.inr (Or.inl ⟨h2, fun w => by unfold trig; rw [if_neg h1, if_pos h2]⟩)
    · exact Or.inr (Or.inr ⟨by omega, fun w => by unfold trig; rw [if_neg h1, if_neg h2]⟩)
theorem sum_if {α : Type} (p : α → Bool) (c : Nat) (l : List α) : (l.map (fun x => if p x = true then c else 0)).sum = l.countP p * c := by
  induction l with
  | nil => simp
  | cons x l ih =>
    rw [List.map_cons, List.sum_cons, ih, List.countP_cons]
    split
    · rw [Nat.add_mul]; omega
    · simp
theorem nodes_nat {m : M} (h : Lq.Passes m) : ∃ N : Nat, m.nodes = (N : Int) ∧ 1 ≤ N := by
  have := Lq.cyc_of h.is
  obtain ⟨N, hN⟩ := Int.eq_ofNat_of_zero_le (show 0 ≤ m.nodes by omega)
  exact ⟨N, hN, by omega⟩
theorem kind_tot {m : M} (h : Lq.Passes m) {N : Nat} (hN : m.nodes = (N : Int)) (k : Int) (hk : k = 1 ∨ k = 2 ∨ k = 3) :
    tot (fun i => m.windows.countP (fun x => kindOf m (i : Int) x == k)) N = if k = 1 then m.windows.countP (fun x => x.kind == 1) else if k = 2 then m.windows.countP (fun x => x.kind == 2) * N else m.windows.countP (fun x => x.kind == 1) * (N - 1) := by
  have hone : ∀ x ∈ m.windows, tot (fun i => if (kindOf m (i : Int) x == k) = true then 1 else 0) N = if k = 1 then (if (x.kind == 1) = true then 1 else 0) else if k = 2 then (if (x.kind == 2) = true then N else 0) else (if (x.kind == 1) = true then N - 1 else 0) := by
    intro x hx
    obtain ⟨i, hi⟩ := List.getElem?_of_mem hx
    rcases trig_ways h hi 0 with ⟨h1, y, hy, _, ht⟩ | ⟨h2, ht⟩ | ⟨h3, ht⟩
    · have hkd : ∀ w : Nat, kindOf m (w : Int) x = if y.owner = (w : Int) then 1 else 3 := fun w => by
        unfold kindOf
        rw [ht]
        dsimp only
        split <;> rfl
      obtain ⟨o, ho⟩ := Int.eq_ofNat_of_zero_le hy.1
      have hoN : o < N := by omega
      have e1 : (x.kind == 1) = true := beq_iff_eq.2 h1
      have e2 : (x.kind == 2) = false := beq_eq_false_iff_ne.2 (by omega)
      rcases hk with rfl | rfl | rfl
      · rw [if_pos rfl, e1, if_pos rfl]
        refine (tot_congr (fun i _ => ?_)).trans (tot_one hoN)
        rw [hkd i]
        by_cases e : i = o
        · rw [if_pos (by omega : y.owner = (i : Int)), if_pos e]; rfl
        · rw [if_neg (by omega : ¬ y.owner = (i : Int)), if_neg e]; rfl
      · rw [if_neg (by decide), if_pos rfl, e2, if_neg (by simp)]
        rw [tot_congr (g := fun _ => 0) (fun i _ => by rw [hkd i]; split <;> rfl), tot_zero]
      · rw [if_neg (by decide), if_neg (by decide), e1, if_pos rfl]
        have h2 := tot_add (fun i => if i = o then 1 else 0) (fun i => if (kindOf m (i : Int) x == 3) = true then 1 else 0) N
        rw [tot_one hoN, tot_congr (g := fun _ => 1) (fun i _ => by
          rw [hkd i]
          by_cases e : i = o
          · rw [if_pos (by omega : y.owner = (i : Int)), if_pos e]; rfl
          · rw [if_neg (by omega : ¬ y.owner = (i : Int)), if_neg e]; rfl), tot_const] at h2
        omega
    · have hkd : ∀ w : Nat, kindOf m (w : Int) x = 2 := fun w => by unfold kindOf; rw [ht]
      have e1 : (x.kind == 1) = false := beq_eq_false_iff_ne.2 (by omega)
      have e2 : (x.kind == 2) = true := beq_iff_eq.2 h2
      rcases hk with rfl | rfl | rfl
      · rw [if_pos rfl, e1, if_neg (by simp), tot_congr (g := fun _ => 0) (fun i _ => by rw [hkd i]; rfl), tot_zero]
      · rw [if_neg (by decide), if_pos rfl, e2, if_pos rfl, tot_congr (g := fun _ => 1) (fun i _ => by rw [hkd i]; rfl), tot_const]
        omega
      · rw [if_neg (by decide), if_neg (by decide), e1, if_neg (by simp), tot_congr (g := fun _ => 0) (fun i _ => by rw [hkd i]; rfl), tot_zero]
    · have hkd : ∀ w : Nat, kindOf m (w : Int) x = 0 := fun w => by unfold kindOf; rw [ht]
      have e1 : (x.kind == 1) = false := beq_eq_false_iff_ne.2 (by omega)
      have e2 : (x.kind == 2) = false := beq_eq_false_iff_ne.2 (by omega)
      have e3 : ∀ i : Nat, (if (kindOf m (i : Int) x == k) = true then 1 else 0) = 0 := fun i => by
        rw [hkd i, if_neg]
        rcases hk with rfl | rfl | rfl <;> decide
      rw [tot_congr (g := fun _ => 0) (fun i _ => e3 i), tot_zero, e1, e2]
      simp
  rw [tot_count (fun i x => kindOf m (i : Int) x == k) _ N m.windows hone]
  rcases hk with rfl | rfl | rfl
  · simp only [if_true]
    rw [sum_if (fun x : Win => x.kind == 1) 1]
    omega
  · have e : (2 : Int) ≠ 1 := by decide
    simp only [e, if_false, if_true]
    exact sum_if (fun x : Win => x.kind == 2) N _
  · have e : (3 : Int) ≠ 1 := by decide
    have e' : (3 : Int) ≠ 2 := by decide
    simp only [e, e', if_false]
    exact sum_if (fun x : Win => x.kind == 1) (N - 1) _
theorem rank_mem {m : M} {w : Int} : 0 ≤ rank m w ↔ w ∈ m.masters := by
  unfold rank firstAt
  cases e : m.masters.findIdx? (fun x => x == w) with
  | none =>
    rw [List.findIdx?_eq_none_iff] at e
    refine ⟨fun h => absurd h (by decide), fun h => ?_⟩
    have := e w h
    simp at this
  | some i =>
    rw [List.findIdx?_eq_some_iff_getElem] at e
    obtain ⟨h1, h2, _⟩ := e
    refine ⟨fun _ => ?_, fun _ => by show (0 : Int) ≤ (i : Int); omega⟩
    have : m.masters[i] = w := by simpa using h2
    rw [← this]
    exact List.getElem_mem h1
theorem tot_mem (N : Nat) : ∀ (l : List Int), l.Nodup → (∀ x ∈ l, 0 ≤ x ∧ x < (N : Int)) → tot (fun i => if (i : Int) ∈ l then 1 else 0) N = l.length
  | [], _, _ => by
    rw [tot_congr (g := fun _ => 0) (fun i _ => if_neg (by simp)), tot_zero]
    rfl
  | x :: l, hn, hb => by
    have hn' := List.nodup_cons.1 hn
    have ih := tot_mem N l hn'.2 (fun y hy => hb y (List.mem_cons_of_mem _ hy))
    obtain ⟨h1, h2⟩ := hb x List.mem_cons_self
    obtain ⟨o, ho⟩ := Int.eq_ofNat_of_zero_le h1
    have h3 := tot_add (fun i => if i = o then 1 else 0) (fun i => if (i : Int) ∈ l then 1 else 0) N
    rw [tot_one (by omega), ih] at h3
    rw [List.length_cons, Nat.add_comm l.length 1, ← h3]
    refine tot_congr (fun i _ => ?_)
    by_cases e : i = o
    · have hl : ¬ (i : Int) ∈ l := fun hl => hn'.1 (by rw [ho, ← e]; exact hl)
      rw [if_pos (by rw [ho, ← e]; exact List.mem_cons_self), if_pos e, if_neg hl]
    · rw [if_neg e, Nat.zero_add]
      by_cases hl : (i : Int) ∈ l
      · rw [if_pos hl, if_pos (List.mem_cons_of_mem _ hl)]
      · rw [if_neg hl, if_neg]
        intro hc
        rcases List.mem_cons.1 hc with hc | hc
        · omega
        · exact hl hc
theorem masters_nodup {m : M} (h : Lq.Passes m) : m.masters.Nodup := by
  rw [List.nodup_iff_pairwise_ne, List.pairwise_iff_getElem]
  intro i j hi hj hij he
  have h1 := h.ranks j hj
  unfold Lq.eRank at h1
  rw [List.getElem?_eq_getElem hj] at h1
  dsimp only at h1
  have h2 : rank m m.masters[j] < (j : Int) := by
    unfold rank firstAt
    cases e : m.masters.findIdx? (fun x => x == m.masters[j]) with
    | none =>
      rw [List.findIdx?_eq_none_iff] at e
      have := e m.masters[j] (List.getElem_mem hj)
      simp at this
    | some k =>
      rw [List.findIdx?_eq_some_iff_getElem] at e
      obtain ⟨_, _, h4⟩ := e
      show (k : Int) < (j : Int)
      by_cases hk : k < j
      · omega
      · have := h4 i (by omega)
        rw [he] at this
        simp at this
  rw [if_pos h2] at h1
  cases h1
theorem master_lt {m : M} (h : Lq.Passes m) {N : Nat} (hN : m.nodes = (N : Int)) {x : Int} (hx : x ∈ m.masters) : 0 ≤ x ∧ x < (N : Int) := by
  obtain ⟨i, hi⟩ := List.getElem?_of_mem hx
  have h1 := h.masters i (List.getElem?_eq_some_iff.1 hi).1
  unfold Lq.eMaster at h1
  rw [hi] at h1
  dsimp only at h1
  have h2 := h.is
  simp only [Mx.is, Bool.and_eq_true] at h2
  have h3 := List.all_eq_true.1 h2.1.1.2 x hx
  simp only [within, Bool.and_eq_true, decide_eq_true_eq] at h3
  by_cases hc : m.nodes ≤ x
  · rw [if_pos hc] at h1
    cases h1
  · omega
/-- All nodes' plans together. -/
theorem shares {m : M} (h : Lq.Passes m) {N : Nat} (hN : m.nodes = (N : Int)) : tot (fun i => cnt 1 (plan m (i : Int))) N = m.windows.countP (fun x => x.kind == 1) ∧ tot (fun i => cnt 2 (plan m (i : Int))) N = m.windows.countP (fun x => x.kind == 2) * N ∧ tot (fun i => cnt 3 (plan m (i : Int))) N = m.windows.countP (fun x => x.kind == 1) * (N - 1) ∧ tot (fun i => cnt 4 (plan m (i : Int))) N = 2 * m.masters.length ∧ tot (fun i => cnt 5 (plan m (i : Int))) N = N := by
  have hc : (Lq.check m).2 = 0 := by rw [Lq.check_of h]
  refine ⟨?_, ?_, ?_, ?_, ?_⟩
  · rw [tot_congr (g := fun i => m.windows.countP (fun x => kindOf m (i : Int) x == 1)) (fun i _ => by rw [cnt_plan hc 1 (by decide)]; simp), kind_tot h hN 1 (Or.inl rfl)]
    rfl
  · rw [tot_congr (g := fun i => m.windows.countP (fun x => kindOf m (i : Int) x == 2)) (fun i _ => by rw [cnt_plan hc 2 (by decide)]; simp), kind_tot h hN 2 (Or.inr (Or.inl rfl))]
    rfl
  · rw [tot_congr (g := fun i => m.windows.countP (fun x => kindOf m (i : Int) x == 3)) (fun i _ => by rw [cnt_plan hc 3 (by decide)]; simp), kind_tot h hN 3 (Or.inr (Or.inr rfl))]
    rfl
  · have hz : ∀ (i : Nat), m.windows.countP (fun x => kindOf m (i : Int) x == 4) = 0 := fun i => by
      rw [List.countP_eq_zero]
      intro x hx
      obtain ⟨j, hj⟩ := List.getElem?_of_mem hx
      unfold kindOf
      rcases trig_ways h hj 0 with ⟨_, y, _, _, ht⟩ | ⟨_, ht⟩ | ⟨_, ht⟩
      · rw [ht]; dsimp only; split <;> simp
      · rw [ht]; simp
      · rw [ht]; simp
    rw [tot_congr (g := fun i => (if (i : Int) ∈ m.masters then 1 else 0) + (if (i : Int) ∈ m.masters then 1 else 0)) (fun i _ => by
      rw [cnt_plan hc 4 (by decide), hz i]
      by_cases hr : (i : Int) ∈ m.masters
      · rw [if_pos (rank_mem.2 hr), if_pos hr]; rfl
      · rw [if_neg (fun k => hr (rank_mem.1 k)), if_neg hr]; rfl), tot_add, tot_mem N _ (masters_nodup h) (fun x hx => master_lt h hN hx)]
    omega
  · have hz : ∀ (i : Nat), m.windows.countP (fun x => kindOf m (i : Int) x == 5) = 0 := fun i => by
      rw [List.countP_eq_zero]
      intro x hx
      obtain ⟨j, hj⟩ := List.getElem?_of_mem hx
      unfold kindOf
      rcases trig_ways h hj 0 with ⟨_, y, _, _, ht⟩ | ⟨_, ht⟩ | ⟨_, ht⟩
      · rw [ht]; dsimp only; split <;> simp
      · rw [ht]; simp
      · rw [ht]; simp
    rw [tot_congr (g := fun _ => 1) (fun i _ => by rw [cnt_plan hc 5 (by decide), hz i]; simp), tot_const]
    omega
end Go.Proofs.YtnbfnipdiffphaaDoor.Yq
