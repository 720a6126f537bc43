/- Layer 18, plain: whose messages are. -/
import Derived.Test.YtkgeknkppnadfaaB18
namespace Go.Proofs.Ytkgeknkppnadfaa.Q18
set_option linter.unusedVariables false
def ms (B : Nat → Nat) (n : Nat) : List Mx.Msg := (List.range n).map fun i : Nat => ⟨i, ((B i % 4 : Nat) : Int), false⟩
theorem ms_len (B : Nat → Nat) (n : Nat) : (ms B n).length = n := by unfold ms; rw [List.length_map, List.length_range]
theorem ms_succ (B : Nat → Nat) (n : Nat) : ms B (n + 1) = ms B n ++ [⟨n, ((B n % 4 : Nat) : Int), false⟩] := by unfold ms; rw [List.range_succ, List.map_append]; rfl
theorem ms_at {B : Nat → Nat} {n i : Nat} (h : i < n) : (ms B n)[i]? = some ⟨i, ((B i % 4 : Nat) : Int), false⟩ := by unfold ms; rw [List.getElem?_map, List.getElem?_range h]; rfl
structure Jo (s : St) (B : Nat → Nat) (n : Nat) (w : Nat) (i : Nat) : Prop where
  l : s.l = ms B n
  who : s.who = (w : Int)
  own : s.own.length = n
  rest : ∀ j, i ≤ j → j < n → s.own[j]? = some none
  q : s.q.l = []
theorem jo0 (B : Nat → Nat) (n w : Nat) : Jo (mk (ms B n) (w : Int)) B n w 0 := ⟨rfl, rfl, by simp [mk, ms_len], fun j _ h => by show (List.replicate (ms B n).length none)[j]? = _; rw [ms_len, List.getElem?_replicate, if_pos h], rfl⟩
theorem Jo.mine {s : St} {B : Nat → Nat} {n w i : Nat} (h : Jo s B n w i) (hi : i < n) {D : ByteArray} (hD : ¬ 8 < D.size) (hw : B i % 4 = w) : sendE s (i : Int) D = 0 ∧ Jo (sendS s (i : Int) D) B n w (i + 1) ∧ get (sendS s (i : Int) D).own (i : Int) = some D := by
  unfold sendE sendS
  rw [msg_nat, h.l, ms_at hi]
  simp only [h.who, hw, if_true, if_neg hD, Bool.false_eq_true, if_false]
  have e : put s.own (i : Int) D = s.own.set i (some D) := put_nat (by rw [h.own]; exact hi) D
  rw [e]
  refine ⟨trivial, ⟨rfl, rfl, by rw [List.length_set]; exact h.own, fun j h1 h2 => ?_, h.q⟩, get_nat (by rw [List.getElem?_set_self (by rw [h.own]; exact hi)])⟩
  show (s.own.set i (some D))[j]? = _
  rw [List.getElem?_set_ne (by omega)]
  exact h.rest j (by omega) h2
theorem Jo.other {s : St} {B : Nat → Nat} {n w i : Nat} (h : Jo s B n w i) (hi : i < n) (D : ByteArray) (hw : B i % 4 ≠ w) : sendE s (i : Int) D = 145 ∧ sendS s (i : Int) D = s ∧ Jo s B n w (i + 1) ∧ get s.own (i : Int) = none := by
  unfold sendE sendS
  rw [msg_nat, h.l, ms_at hi]
  have hne : ¬ (((B i % 4 : Nat) : Int) = (w : Int)) := by omega
  simp only [h.who, if_neg hne]
  exact ⟨trivial, trivial, ⟨h.l, h.who, h.own, fun j h1 h2 => h.rest j (by omega) h2, h.q⟩, get_nat (h.rest i (Nat.le_refl _) hi)⟩
theorem Jo.none_ {s : St} {B : Nat → Nat} {n w i : Nat} (h : Jo s B n w i) (k : Int) (hk : ¬ (0 ≤ k ∧ k < (n : Int))) (D : ByteArray) : sendE s k D = 145 ∧ sendS s k D = s := by
  unfold sendE sendS
  rw [msg_no (by rw [h.l, ms_len]; exact hk)]
  exact ⟨rfl, rfl⟩
end Go.Proofs.Ytkgeknkppnadfaa.Q18
