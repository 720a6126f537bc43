/- Layer 14: one thing spoilt in a matrix that passes: plain. -/
import Derived.Test.YtdaiooelglablaaDoorLn
namespace Go.Proofs.YtdaiooelglablaaDoor.Lq
open Mx
set_option linter.unusedVariables false
theorem is_parts {m : M} (h : Mx.is m = true) : scal m = true ∧ lens m = true ∧ (∀ x ∈ m.masters, within x 0 99 = true) ∧ (∀ x ∈ m.messages, msgOk x = true) ∧ (∀ x ∈ m.windows, winOk m x = true) := by
  simp only [Mx.is, Bool.and_eq_true] at h
  exact ⟨h.1.1.1.1, h.1.1.1.2, List.all_eq_true.1 h.1.1.2, List.all_eq_true.1 h.1.2, List.all_eq_true.1 h.2⟩
theorem is_mk {m : M} (h1 : scal m = true) (h2 : lens m = true) (h3 : ∀ x ∈ m.masters, within x 0 99 = true) (h4 : ∀ x ∈ m.messages, msgOk x = true) (h5 : ∀ x ∈ m.windows, winOk m x = true) : Mx.is m = true := by
  simp only [Mx.is, Bool.and_eq_true]
  exact ⟨⟨⟨⟨h1, h2⟩, List.all_eq_true.2 h3⟩, List.all_eq_true.2 h4⟩, List.all_eq_true.2 h5⟩
theorem lens_of {m : M} (h : lens m = true) : m.ref < 2048 ∧ m.ref % 8 = 0 ∧ 1 ≤ m.masters.length ∧ m.masters.length ≤ 4 ∧ m.messages.length ≤ 12 ∧ m.windows.length ≤ 16 := by
  simp only [lens, within, Bool.and_eq_true, decide_eq_true_eq, beq_iff_eq] at h
  omega
theorem lens_mk {m : M} (h1 : m.ref < 2048) (h2 : m.ref % 8 = 0) (h3 : 1 ≤ m.masters.length ∧ m.masters.length ≤ 4) (h4 : m.messages.length ≤ 12) (h5 : m.windows.length ≤ 16) : lens m = true := by
  simp only [lens, within, Bool.and_eq_true, decide_eq_true_eq, beq_iff_eq]
  omega
/-- Masters put in the place of others. -/
theorem is_masters {m : M} (h : Mx.is m = true) {xs : List Int} (hl : 1 ≤ xs.length ∧ xs.length ≤ 4) (hx : ∀ x ∈ xs, within x 0 99 = true) : Mx.is { m with masters := xs } = true := by
  obtain ⟨h1, h2, h3, h4, h5⟩ := is_parts h
  obtain ⟨l1, l2, _, _, l5, l6⟩ := lens_of h2
  exact is_mk h1 (lens_mk l1 l2 hl l5 l6) hx h4 h5
theorem is_messages {m : M} (h : Mx.is m = true) {xs : List Msg} (hl : xs.length ≤ 12) (hx : ∀ x ∈ xs, msgOk x = true) : Mx.is { m with messages := xs } = true := by
  obtain ⟨h1, h2, h3, h4, h5⟩ := is_parts h
  obtain ⟨l1, l2, l3, l4, _, l6⟩ := lens_of h2
  exact is_mk h1 (lens_mk l1 l2 ⟨l3, l4⟩ hl l6) h3 hx h5
theorem is_windows {m : M} (h : Mx.is m = true) {xs : List Win} (hl : xs.length ≤ 16) (hx : ∀ x ∈ xs, winOk m x = true) : Mx.is { m with windows := xs } = true := by
  obtain ⟨h1, h2, h3, h4, h5⟩ := is_parts h
  obtain ⟨l1, l2, l3, l4, l5, _⟩ := lens_of h2
  exact is_mk h1 (lens_mk l1 l2 ⟨l3, l4⟩ l5 hl) h3 h4 hx
theorem step_same {m n : M} (h1 : Mx.is m = true) (h2 : Mx.is n = true) (e1 : n.unit = m.unit) (e2 : n.enable = m.enable) : step n = step m := by
  unfold step
  rw [h1, h2, e1, e2]
theorem within99 {x : Int} (h : 0 ≤ x ∧ x ≤ 99) : within x 0 99 = true := by
  simp only [within, Bool.and_eq_true, decide_eq_true_eq]
  exact h
theorem ne0 {x : Int} (h : x = 141 ∨ x = 142 ∨ x = 143) : x ≠ 0 := by omega
/-- 0: a master that there isn't. -/
theorem one0 {m : M} (h : Passes m) {k : Nat} (hk : k < m.masters.length) : Mx.is { m with masters := m.masters.set k m.nodes } = true ∧ check { m with masters := m.masters.set k m.nodes } = ((k : Int), 141) := by
  obtain ⟨p1, p2, p3, p4, p5⟩ := is_parts h.is
  have hn := cyc_of h.is
  have hi : Mx.is { m with masters := m.masters.set k m.nodes } = true := is_masters h.is (by rw [List.length_set]; have := lens_of p2; omega) (fun x hx => by
    rcases List.mem_or_eq_of_mem_set hx with h1 | h1
    · exact p3 x h1
    · rw [h1]; exact within99 (by omega))
  have hst := step_same h.is hi rfl rfl
  refine ⟨hi, ?_⟩
  have hr := h.room
  have s1 : scan (eMaster { m with masters := m.masters.set k m.nodes }) (m.masters.set k m.nodes).length 0 = ((k : Int), 141) := by
    have e : eMaster { m with masters := m.masters.set k m.nodes } k = 141 := by
      unfold eMaster
      dsimp only
      rw [List.getElem?_set_self hk]
      exact if_pos (Int.le_refl _)
    have := scan_some (f := eMaster { m with masters := m.masters.set k m.nodes }) (j := k) (by rw [e]; decide) (n := (m.masters.set k m.nodes).length) (k := 0) (Nat.zero_le _) (by rw [List.length_set]; omega) (fun i _ hi => by
      have := h.masters i (by omega)
      unfold eMaster at this ⊢
      dsimp only
      rw [List.getElem?_set_ne (by omega)]
      exact this)
    rw [e] at this
    exact this
  unfold check
  rw [hi, if_neg (by simp), if_neg (by rw [hst]; dsimp only; omega), orElse_some (by rw [s1]; exact (by decide : (141 : Int) ≠ 0)), s1]
/-- 1: no matrix. -/
theorem one1 {m : M} (h : Passes m) : check { m with level := 3 } = (0, 120) := by
  have hi : Mx.is { m with level := 3 } = false := by
    have : scal { m with level := 3 } = false := by simp [scal, within]
    unfold Mx.is
    rw [this]
    simp
  unfold check
  rw [hi, if_pos rfl]
theorem firstAt_lt {α : Type} {p : α → Bool} {l : List α} {k : Nat} {x : α} (hx : l[k]? = some x) (hp : p x = true) : firstAt p l ≤ (k : Int) := by
  unfold firstAt
  cases e : l.findIdx? p with
  | none =>
    rw [List.findIdx?_eq_none_iff] at e
    have := e x (List.mem_of_getElem? hx)
    rw [hp] at this
    cases this
  | some i =>
    rw [List.findIdx?_eq_some_iff_getElem] at e
    obtain ⟨h1, h2, h3⟩ := e
    show (i : Int) ≤ (k : Int)
    by_cases hik : i ≤ k
    · omega
    · have hk := (List.getElem?_eq_some_iff.1 hx)
      have := h3 k (by omega)
      rw [hk.2, hp] at this
      simp at this
/-- That nothing ahead of a place is so. -/
theorem firstAt_ge {α : Type} {p : α → Bool} {l : List α} {k : Nat} (hb : ∀ (j : Nat) y, j < k → l[j]? = some y → p y = false) {x : α} (hx : l[k]? = some x) (hp : p x = true) : firstAt p l = (k : Int) := firstAt_some hx hb hp
theorem firstAt_ahead {α : Type} {p : α → Bool} {l : List α} {k : Nat} (h : ¬ firstAt p l < (k : Int)) {j : Nat} (hj : j < k) {y : α} (hy : l[j]? = some y) : p y = false := by
  cases e : p y with
  | false => rfl
  | true => have := firstAt_lt hy e; omega
theorem find_pred {m : M} {i : Nat} : find m false false i = firstAt (fun x : Msg => x.id == i) m.messages := by
  unfold find
  simp only [Bool.not_false, Bool.true_and]
theorem rank_ok {m : M} (h : Passes m) {j : Nat} {x : Int} (hx : m.masters[j]? = some x) : ¬ rank m x < (j : Int) := fun hlt => by
  have := h.ranks j (List.getElem?_eq_some_iff.1 hx).1
  unfold eRank at this
  rw [hx] at this
  dsimp only at this
  rw [if_pos hlt] at this
  cases this
theorem find_ok {m : M} (h : Passes m) {j : Nat} {x : Msg} (hx : m.messages[j]? = some x) : ¬ find m false false x.id < (j : Int) ∧ x.id / 8 ≠ m.ref / 8 := by
  have := h.finds j (List.getElem?_eq_some_iff.1 hx).1
  unfold eFind at this
  rw [hx] at this
  dsimp only at this
  by_cases hc : find m false false x.id < (j : Int) ∨ x.id / 8 = m.ref / 8
  · rw [if_pos hc] at this
    cases this
  · exact ⟨fun h => hc (Or.inl h), fun h => hc (Or.inr h)⟩
/-- 2: a master twice. -/
theorem one2 {m : M} (h : Passes m) {k : Nat} {x : Int} (hx : m.masters[k]? = some x) (hl : m.masters.length < 4) : Mx.is { m with masters := m.masters ++ [x] } = true ∧ check { m with masters := m.masters ++ [x] } = ((m.masters.length : Int), 142) := by
  obtain ⟨p1, p2, p3, p4, p5⟩ := is_parts h.is
  have hk := (List.getElem?_eq_some_iff.1 hx).1
  have hi : Mx.is { m with masters := m.masters ++ [x] } = true := is_masters h.is (by rw [List.length_append]; dsimp only [List.length_singleton]; have := lens_of p2; simp; omega) (fun y hy => by
    rcases List.mem_append.1 hy with h1 | h1
    · exact p3 y h1
    · rw [List.mem_singleton.1 h1]; exact p3 x (List.mem_of_getElem? hx))
  have hst := step_same h.is hi rfl rfl
  have hr := h.room
  have at1 : ∀ j, j < m.masters.length → (m.masters ++ [x])[j]? = m.masters[j]? := fun j hj => List.getElem?_append_left hj
  have at2 : (m.masters ++ [x])[m.masters.length]? = some x := by rw [List.getElem?_append_right (Nat.le_refl _), Nat.sub_self]; rfl
  refine ⟨hi, ?_⟩
  have s1 := scan_none (f := eMaster { m with masters := m.masters ++ [x] }) (n := (m.masters ++ [x]).length) (k := 0) (fun j _ hj => by
    rw [List.length_append, List.length_singleton] at hj
    by_cases e : j < m.masters.length
    · have := h.masters j e
      unfold eMaster at this ⊢
      dsimp only
      rw [at1 j e]
      exact this
    · obtain rfl : j = m.masters.length := by omega
      have := h.masters k hk
      unfold eMaster at this ⊢
      dsimp only
      rw [at2]
      rw [hx] at this
      exact this)
  have s2 := scan_none (f := eOwner { m with masters := m.masters ++ [x] }) (n := m.messages.length) (k := 0) (fun j _ hj => h.owners j (by omega))
  have s3 : scan (eRank { m with masters := m.masters ++ [x] }) (m.masters ++ [x]).length 0 = ((m.masters.length : Int), 142) := by
    have e : eRank { m with masters := m.masters ++ [x] } m.masters.length = 142 := by
      unfold eRank
      dsimp only
      rw [at2]
      dsimp only
      refine if_pos ?_
      have := firstAt_lt (p := fun y => y == x) (l := m.masters ++ [x]) (k := k) (x := x) (by rw [at1 k hk]; exact hx) (by simp)
      show firstAt (fun y => y == x) (m.masters ++ [x]) < _
      omega
    have := scan_some (f := eRank { m with masters := m.masters ++ [x] }) (j := m.masters.length) (by rw [e]; decide) (n := (m.masters ++ [x]).length) (k := 0) (Nat.zero_le _) (by rw [List.length_append, List.length_singleton]; omega) (fun j _ hj => by
      unfold eRank
      dsimp only
      rw [at1 j hj]
      obtain ⟨y, hy⟩ : ∃ y, m.masters[j]? = some y := ⟨_, List.getElem?_eq_getElem hj⟩
      rw [hy]
      dsimp only
      refine if_neg ?_
      have h1 := rank_ok h hy
      have h2 := firstAt_ge (p := fun z => z == y) (l := m.masters ++ [x]) (k := j) (fun i z hi hz => by
        rw [at1 i (by omega)] at hz
        exact firstAt_ahead h1 hi hz) (x := y) (by rw [at1 j hj]; exact hy) (by simp)
      show ¬ firstAt (fun z => z == y) (m.masters ++ [x]) < _
      omega)
    rw [e] at this
    exact this
  have t1 : twice { m with masters := m.masters ++ [x] } = ((m.masters.length : Int), 142) := by
    unfold twice
    rw [orElse_some (by rw [s3]; exact (by decide : (142 : Int) ≠ 0)), s3]
  unfold check
  rw [hi, if_neg (by simp), if_neg (by rw [hst]; dsimp only; omega), s1, orElse_zero rfl, s2, orElse_zero rfl, orElse_some (by rw [t1]; exact (by decide : (142 : Int) ≠ 0)), t1]
theorem check_wins {m : M} (h : Passes m) {xs : List Win} (hi : Mx.is { m with windows := xs } = true) : check { m with windows := xs } = scan (eWin { m with windows := xs }) xs.length 0 := by
  have hst := step_same h.is hi rfl rfl
  have hr := h.room
  have s1 := scan_none (f := eMaster { m with windows := xs }) (n := m.masters.length) (k := 0) (fun j _ hj => h.masters j (by omega))
  have s2 := scan_none (f := eOwner { m with windows := xs }) (n := m.messages.length) (k := 0) (fun j _ hj => h.owners j (by omega))
  have s3 := scan_none (f := eRank { m with windows := xs }) (n := m.masters.length) (k := 0) (fun j _ hj => h.ranks j (by omega))
  have s4 := scan_none (f := eFind { m with windows := xs }) (n := m.messages.length) (k := 0) (fun j _ hj => h.finds j (by omega))
  unfold check twice
  rw [hi, if_neg (by simp), if_neg (by rw [hst]; dsimp only; omega), s1, orElse_zero rfl, s2, orElse_zero rfl, s3, s4, orElse_zero rfl]
  all_goals rfl
/-- 3: a window twice. -/
theorem one3 {m : M} (h : Passes m) {k : Nat} {x : Win} (hx : m.windows[k]? = some x) (hl : m.windows.length < 16) : Mx.is { m with windows := m.windows ++ [x] } = true ∧ check { m with windows := m.windows ++ [x] } = ((m.windows.length : Int), 143) := by
  obtain ⟨p1, p2, p3, p4, p5⟩ := is_parts h.is
  have hk := (List.getElem?_eq_some_iff.1 hx).1
  have hi : Mx.is { m with windows := m.windows ++ [x] } = true := is_windows h.is (by rw [List.length_append, List.length_singleton]; omega) (fun y hy => by
    rcases List.mem_append.1 hy with h1 | h1
    · exact p5 y h1
    · rw [List.mem_singleton.1 h1]; exact p5 x (List.mem_of_getElem? hx))
  have hst := step_same h.is hi rfl rfl
  have at1 : ∀ j, j < m.windows.length → (m.windows ++ [x])[j]? = m.windows[j]? := fun j hj => List.getElem?_append_left hj
  have at2 : (m.windows ++ [x])[m.windows.length]? = some x := by rw [List.getElem?_append_right (Nat.le_refl _), Nat.sub_self]; rfl
  have hgt : ∀ y, tight { m with windows := m.windows ++ [x] } y = tight m y := fun y => by unfold tight; rw [hst]
  have hgm : ∀ (i j : Nat), i < m.windows.length → j < m.windows.length → meet { m with windows := m.windows ++ [x] } (i : Int) (j : Int) = meet m (i : Int) (j : Int) := fun i j h1 h2 => by
    unfold meet getW
    dsimp only
    rw [if_pos (by omega), if_pos (by omega), if_pos (by omega), if_pos (by omega), Int.toNat_natCast, Int.toNat_natCast, at1 i h1, at1 j h2]
  have W := wx_of h hx
  refine ⟨hi, (check_wins h hi).trans ?_⟩
  have e : eWin { m with windows := m.windows ++ [x] } m.windows.length = 143 := by
    have h1 := h.wins k hk
    unfold eWin at h1 ⊢
    dsimp only
    rw [at2]
    rw [hx] at h1
    dsimp only at h1 ⊢
    have n1 : noMsg m x = false := by
      cases e : noMsg m x with
      | false => rfl
      | true => rw [e] at h1; simp at h1
    have n2 : tight m x = false := by
      cases e : tight m x with
      | false => rfl
      | true => rw [n1, e] at h1; simp at h1
    have n3 : meets { m with windows := m.windows ++ [x] } m.windows.length = true := by
      refine List.any_eq_true.2 ⟨k, List.mem_range.2 hk, ?_⟩
      have e : meet { m with windows := m.windows ++ [x] } (k : Int) (m.windows.length : Int) = meetW m.cycles x x := by
        unfold meet getW
        dsimp only
        rw [if_pos (by omega), if_pos (by omega), Int.toNat_natCast, Int.toNat_natCast, at1 k hk, at2, hx]
      rw [e]
      obtain ⟨c, hc⟩ := Int.eq_ofNat_of_zero_le W.cy.1
      have hcy := cyc_of h.is
      have hrp := W.rep
      have hcr := W.cy
      have hco : comes x.cycle x.rep (c : Int) = true := by
        rw [comes_mod (by omega) W.cy.1 W.cy.2, ← hc, Int.emod_eq_of_lt W.cy.1 W.cy.2]
        simp
      unfold meetW cross
      rw [decide_eq_true W.st.2.1, Bool.true_and, Bool.true_and]
      refine List.any_eq_true.2 ⟨c, List.mem_range.2 (by omega), ?_⟩
      unfold both
      rw [decide_eq_true (by omega), hco]
      rfl
    have n4 : noMsg { m with windows := m.windows ++ [x] } x = noMsg m x := rfl
    rw [n4, n1, hgt, n2, n3]
    rfl
  have := scan_some (f := eWin { m with windows := m.windows ++ [x] }) (j := m.windows.length) (by rw [e]; decide) (n := (m.windows ++ [x]).length) (k := 0) (Nat.zero_le _) (by rw [List.length_append, List.length_singleton]; omega) (fun j _ hj => by
    have h1 := h.wins j hj
    unfold eWin at h1 ⊢
    dsimp only
    rw [at1 j hj]
    obtain ⟨y, hy⟩ : ∃ y, m.windows[j]? = some y := ⟨_, List.getElem?_eq_getElem hj⟩
    rw [hy] at h1 ⊢
    dsimp only at h1 ⊢
    have n4 : noMsg { m with windows := m.windows ++ [x] } y = noMsg m y := rfl
    have n5 : meets { m with windows := m.windows ++ [x] } j = meets m j := by
      unfold meets
      rw [Bool.eq_iff_iff, List.any_eq_true, List.any_eq_true]
      constructor
      · rintro ⟨i, hi, hm⟩
        have := List.mem_range.1 hi
        exact ⟨i, hi, by rw [hgm i j (by omega) hj] at hm; exact hm⟩
      · rintro ⟨i, hi, hm⟩
        have := List.mem_range.1 hi
        exact ⟨i, hi, by rw [hgm i j (by omega) hj]; exact hm⟩
    rw [n4, hgt, n5]
    exact h1)
  rw [e] at this
  exact this
/-- 4: a message among the beat's identifiers. -/
theorem one4 {m : M} (h : Passes m) {k : Nat} {x : Msg} (hx : m.messages[k]? = some x) {r : Nat} (hr8 : r < 8) : Mx.is { m with messages := m.messages.set k { x with id := m.ref + r } } = true ∧ check { m with messages := m.messages.set k { x with id := m.ref + r } } = ((k : Int), 142) := by
  obtain ⟨p1, p2, p3, p4, p5⟩ := is_parts h.is
  obtain ⟨l1, l2, _, _, l5, _⟩ := lens_of p2
  have hk := (List.getElem?_eq_some_iff.1 hx).1
  have hxm := p4 x (List.mem_of_getElem? hx)
  have hi : Mx.is { m with messages := m.messages.set k { x with id := m.ref + r } } = true := is_messages h.is (by rw [List.length_set]; exact l5) (fun y hy => by
    rcases List.mem_or_eq_of_mem_set hy with h1 | h1
    · exact p4 y h1
    · rw [h1]
      simp only [msgOk, Bool.and_eq_true, decide_eq_true_eq] at hxm ⊢
      exact ⟨by omega, hxm.2⟩)
  have hst := step_same h.is hi rfl rfl
  have hr := h.room
  have at1 : ∀ j, j ≠ k → (m.messages.set k { x with id := m.ref + r })[j]? = m.messages[j]? := fun j hj => List.getElem?_set_ne (by omega)
  have at2 : (m.messages.set k { x with id := m.ref + r })[k]? = some { x with id := m.ref + r } := List.getElem?_set_self hk
  refine ⟨hi, ?_⟩
  have s1 := scan_none (f := eMaster { m with messages := m.messages.set k { x with id := m.ref + r } }) (n := m.masters.length) (k := 0) (fun j _ hj => h.masters j (by omega))
  have s2 := scan_none (f := eOwner { m with messages := m.messages.set k { x with id := m.ref + r } }) (n := (m.messages.set k { x with id := m.ref + r }).length) (k := 0) (fun j _ hj => by
    rw [List.length_set] at hj
    have h1 := h.owners j (by omega)
    unfold eOwner at h1 ⊢
    dsimp only
    by_cases e : j = k
    · subst e
      rw [at2]
      rw [hx] at h1
      exact h1
    · rw [at1 j e]
      exact h1)
  have s3 := scan_none (f := eRank { m with messages := m.messages.set k { x with id := m.ref + r } }) (n := m.masters.length) (k := 0) (fun j _ hj => h.ranks j (by omega))
  have s4 : scan (eFind { m with messages := m.messages.set k { x with id := m.ref + r } }) (m.messages.set k { x with id := m.ref + r }).length 0 = ((k : Int), 142) := by
    have e : eFind { m with messages := m.messages.set k { x with id := m.ref + r } } k = 142 := by
      unfold eFind
      dsimp only
      rw [at2]
      dsimp only
      exact if_pos (Or.inr (by omega))
    have := scan_some (f := eFind { m with messages := m.messages.set k { x with id := m.ref + r } }) (j := k) (by rw [e]; decide) (n := (m.messages.set k { x with id := m.ref + r }).length) (k := 0) (Nat.zero_le _) (by rw [List.length_set]; omega) (fun j _ hj => by
      unfold eFind
      dsimp only
      rw [at1 j (by omega)]
      obtain ⟨y, hy⟩ : ∃ y, m.messages[j]? = some y := ⟨_, List.getElem?_eq_getElem (by omega)⟩
      rw [hy]
      dsimp only
      obtain ⟨h1, h2⟩ := find_ok h hy
      rw [find_pred] at h1
      refine if_neg (fun hc => ?_)
      rcases hc with hc | hc
      · have h3 := firstAt_ge (p := fun z : Msg => z.id == y.id) (l := m.messages.set k { x with id := m.ref + r }) (k := j) (fun i z hi hz => by
          rw [at1 i (by omega)] at hz
          exact firstAt_ahead h1 hi hz) (x := y) (by rw [at1 j (by omega)]; exact hy) (by simp)
        rw [find_pred] at hc
        dsimp only at hc
        omega
      · exact h2 hc)
    rw [e] at this
    exact this
  have t1 : twice { m with messages := m.messages.set k { x with id := m.ref + r } } = ((k : Int), 142) := by
    unfold twice
    rw [s3, orElse_zero rfl, s4]
  unfold check
  rw [hi, if_neg (by simp), if_neg (by rw [hst]; dsimp only; omega), s1, orElse_zero rfl, s2, orElse_zero rfl, orElse_some (by rw [t1]; exact (by decide : (142 : Int) ≠ 0)), t1]
end Go.Proofs.YtdaiooelglablaaDoor.Lq
