/- Layer 18, plain: a state sent again and again, events as they wait. -/
import Derived.Test.YtkgeknkppnadfaaB18
namespace Go.Proofs.Ytkgeknkppnadfaa.Q18
set_option linter.unusedVariables false
structure J (s : St) (n : Nat) : Prop where
  l : s.l = Mx.l18.messages
  who : s.who = 0
  own : s.own.length = 3
  room : s.q.room = 4
  len : s.q.l.length = n
  le : n ≤ 4
  one : ∀ d ∈ s.q.l, d.msg = 1
theorem j0 : J k0 0 := ⟨rfl, rfl, rfl, rfl, rfl, by decide, fun d hd => by cases hd⟩
theorem J.m0 {s : St} {n : Nat} (h : J s n) : msgAt s 0 = some ⟨1, 0, false⟩ := by unfold msgAt; rw [h.l]; rfl
theorem J.m1 {s : St} {n : Nat} (h : J s n) : msgAt s 1 = some ⟨2, 0, true⟩ := by unfold msgAt; rw [h.l]; rfl
theorem J.long {s : St} {n : Nat} (h : J s n) {D : ByteArray} (hD : 8 < D.size) : sendE s 0 D = 12 ∧ sendS s 0 D = s := by
  unfold sendE sendS
  rw [h.m0]
  simp only [h.who, if_true, if_pos hD]
  exact ⟨trivial, trivial⟩
theorem J.send0 {s : St} {n : Nat} (h : J s n) {D : ByteArray} (hD : ¬ 8 < D.size) : sendE s 0 D = 0 ∧ J (sendS s 0 D) n ∧ get (sendS s 0 D).own 0 = some D := by
  unfold sendE sendS
  rw [h.m0]
  simp only [h.who, if_true, if_neg hD, Bool.false_eq_true, if_false]
  have e : put s.own 0 D = s.own.set 0 (some D) := put_nat (k := 0) (by rw [h.own]; decide) D
  rw [e]
  refine ⟨trivial, ⟨h.l, rfl, by rw [List.length_set]; exact h.own, h.room, h.len, h.le, h.one⟩, ?_⟩
  exact get_nat (k := 0) (by rw [List.getElem?_set_self (by rw [h.own]; decide)])
theorem J.send1 {s : St} {n : Nat} (h : J s n) {D : ByteArray} (hD : ¬ 8 < D.size) : sendE s 1 D = (if n < 4 then 0 else 170) ∧ J (sendS s 1 D) (min (n + 1) 4) := by
  unfold sendE sendS
  rw [h.m1]
  simp only [h.who, if_true, if_neg hD]
  unfold Vq.putE Vq.putS
  rw [h.len, h.room]
  refine ⟨rfl, ?_⟩
  by_cases h4 : n < 4
  · rw [if_pos h4]
    refine ⟨h.l, rfl, h.own, by first | exact h.room | rfl, ?_, by omega, fun d hd => ?_⟩
    · show (s.q.l ++ [_]).length = _
      rw [List.length_append, h.len]
      show n + 1 = _
      omega
    · rcases List.mem_append.1 hd with hd | hd
      · exact h.one d hd
      · rw [List.mem_singleton.1 hd]
  · rw [if_neg h4]
    exact ⟨h.l, rfl, h.own, by first | exact h.room | rfl, by show s.q.l.length = _; rw [h.len]; have := h.le; omega, by omega, h.one⟩
theorem J.sent {s : St} {n : Nat} (h : J s n) (hn : 0 < n) : J (sentS s 1) (n - 1) := by
  have hl : 0 < s.q.l.length := by rw [h.len]; exact hn
  obtain ⟨d, l, e⟩ : ∃ d l, s.q.l = d :: l := by
    cases hh : s.q.l with
    | nil => rw [hh] at hl; exact absurd hl (Nat.lt_irrefl 0)
    | cons d l => exact ⟨d, l, rfl⟩
  have hm : (Vq.hd s.q).msg = 1 := by unfold Vq.hd; rw [e]; exact h.one d (by rw [e]; exact List.mem_cons_self)
  unfold sentS
  rw [decide_eq_true hl, hm]
  show J { s with q := Vq.takeS s.q } (n - 1)
  have h1 := h.len
  rw [e, List.length_cons] at h1
  refine ⟨h.l, h.who, h.own, h.room, ?_, by have := h.le; omega, fun d' hd => h.one d' ?_⟩
  · show s.q.l.tail.length = _
    rw [e, List.tail_cons]
    omega
  · have hd2 : d' ∈ s.q.l.tail := hd
    exact List.mem_of_mem_tail hd2
end Go.Proofs.Ytkgeknkppnadfaa.Q18
