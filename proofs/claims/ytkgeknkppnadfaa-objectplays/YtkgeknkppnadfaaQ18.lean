/- Layer 18, plain: messages' places. Nothing of the program is in it. -/
import Derived.Test.YtkgeknkppnadfaaMx
import Derived.Test.YtkgeknkppnadfaaVq
namespace Go.Proofs.Ytkgeknkppnadfaa.Q18
set_option linter.unusedVariables false
abbrev Da := List (Option ByteArray)
structure St where
  l : List Mx.Msg
  who : Int
  own : Da
  came : Da
  q : Vq.St
def mk (l : List Mx.Msg) (who : Int) : St := ⟨l, who, List.replicate l.length none, List.replicate l.length none, ⟨4, []⟩⟩
def inn (n : Nat) (k : Int) : Bool := decide (0 ≤ k) && decide (k < (n : Int))
def get (l : Da) (k : Int) : Option ByteArray := if inn l.length k then (l[k.toNat]?).join else none
def put (l : Da) (k : Int) (d : ByteArray) : Da := if inn l.length k then l.set k.toNat (some d) else l
def msgAt (s : St) (k : Int) : Option Mx.Msg := if 0 ≤ k then s.l[k.toNat]? else none
def sendE (s : St) (k : Int) (d : ByteArray) : Int := match msgAt s k with
  | none => 145
  | some x => if x.owner = s.who then (if 8 < d.size then 12 else if x.event then Vq.putE s.q else 0) else 145
def sendS (s : St) (k : Int) (d : ByteArray) : St := match msgAt s k with
  | none => s
  | some x => if x.owner = s.who then (if 8 < d.size then s else if x.event then { s with q := Vq.putS s.q ⟨k, d⟩ } else { s with own := put s.own k d }) else s
def sentS (s : St) (k : Int) : St := if decide (0 < s.q.l.length) && (Vq.hd s.q).msg == k then { s with q := Vq.takeS s.q } else s
def gotS (s : St) (k : Int) (d : ByteArray) : St := { s with came := put s.came k d }
structure Ok (s : St) : Prop where
  n : s.l.length ≤ 1000
  own : s.own.length = s.l.length
  came : s.came.length = s.l.length
  q : Vq.Ok s.q
theorem inn_iff {n : Nat} {k : Int} : inn n k = true ↔ 0 ≤ k ∧ k < (n : Int) := by unfold inn; simp
theorem inn_no {n : Nat} {k : Int} (h : ¬ (0 ≤ k ∧ k < (n : Int))) : inn n k = false := by
  cases e : inn n k with
  | false => rfl
  | true => exact absurd (inn_iff.1 e) h
theorem len_put (l : Da) (k : Int) (d : ByteArray) : (put l k d).length = l.length := by unfold put; split <;> simp
theorem put_nat {l : Da} {k : Nat} (h : k < l.length) (d : ByteArray) : put l (k : Int) d = l.set k (some d) := by
  unfold put
  rw [if_pos (inn_iff.2 ⟨by omega, by omega⟩), Int.toNat_natCast]
theorem get_nat {l : Da} {k : Nat} {o : Option ByteArray} (h : l[k]? = some o) : get l (k : Int) = o := by
  have hl := (List.getElem?_eq_some_iff.1 h).1
  unfold get
  rw [if_pos (inn_iff.2 ⟨by omega, by omega⟩), Int.toNat_natCast, h]
  rfl
theorem get_no {l : Da} {k : Int} (h : ¬ (0 ≤ k ∧ k < (l.length : Int))) : get l k = none := by unfold get; rw [inn_no h]; rfl
theorem put_no {l : Da} {k : Int} (h : ¬ (0 ≤ k ∧ k < (l.length : Int))) (d : ByteArray) : put l k d = l := by unfold put; rw [inn_no h]; rfl
theorem msg_nat {s : St} {k : Nat} : msgAt s (k : Int) = s.l[k]? := by unfold msgAt; rw [if_pos (by omega), Int.toNat_natCast]
theorem msg_no {s : St} {k : Int} (h : ¬ (0 ≤ k ∧ k < (s.l.length : Int))) : msgAt s k = none := by
  unfold msgAt
  split
  · exact List.getElem?_eq_none (by omega)
  · rfl
theorem ok_mk {l : List Mx.Msg} (h : l.length ≤ 1000) (who : Int) : Ok (mk l who) := ⟨h, by simp [mk], by simp [mk], ⟨by simp [mk], by simp [mk], by simp [mk]⟩⟩
theorem ok_send {s : St} (h : Ok s) (k : Int) (d : ByteArray) : Ok (sendS s k d) := by
  unfold sendS
  split
  · exact h
  · split
    · split
      · exact h
      · split
        · exact ⟨h.n, h.own, h.came, Vq.ok_put h.q _⟩
        · exact ⟨h.n, by show (put s.own k d).length = _; rw [len_put]; exact h.own, h.came, h.q⟩
    · exact h
theorem ok_sent {s : St} (h : Ok s) (k : Int) : Ok (sentS s k) := by
  unfold sentS
  split
  · exact ⟨h.n, h.own, h.came, Vq.ok_take h.q⟩
  · exact h
theorem ok_got {s : St} (h : Ok s) (k : Int) (d : ByteArray) : Ok (gotS s k d) := ⟨h.n, h.own, by show (put s.came k d).length = _; rw [len_put]; exact h.came, h.q⟩
theorem l_send (s : St) (k : Int) (d : ByteArray) : (sendS s k d).l = s.l := by unfold sendS; split; rfl; split; split; rfl; split <;> rfl; rfl
theorem l_sent (s : St) (k : Int) : (sentS s k).l = s.l := by unfold sentS; split <;> rfl
end Go.Proofs.Ytkgeknkppnadfaa.Q18
