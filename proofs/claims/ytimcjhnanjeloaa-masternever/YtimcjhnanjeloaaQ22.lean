/- Layer 22, plain: who beats. Nothing of the program is in it. -/
import Derived.WalkArith
namespace Go.Proofs.Ytimcjhnanjeloaa.Q22
set_option linter.unusedVariables false
structure St where
  rank : Int
  st : Nat
  lead : Int
deriving DecidableEq
def mk (r : Int) : St := ⟨max (-1) r, 0, -1⟩
def beat (s : St) (r : Int) : St := ⟨s.rank, min 2 (s.st + 1), r⟩
def sent (s : St) : St := if 0 ≤ s.rank then ⟨s.rank, 2, s.rank⟩ else s
def watch (s : St) : St := ⟨s.rank, 0, -1⟩
def leads (s : St) : Bool := decide (0 ≤ s.rank) && (s.st == 2 && decide (s.rank ≤ s.lead))
def stands (s : St) : Bool := decide (0 ≤ s.rank)
structure Ok (s : St) : Prop where
  st : s.st ≤ 2
  lo : -1 ≤ s.rank
  hi : s.rank < 9223372036854775808
  l0 : -9223372036854775808 ≤ s.lead
  l1 : s.lead < 9223372036854775808
theorem ok_mk {r : Int} (h : r < 9223372036854775808) : Ok (mk r) := ⟨Nat.zero_le _, by show -1 ≤ max (-1) r; omega, by show max (-1) r < _; omega, by show -9223372036854775808 ≤ (-1 : Int); omega, by show (-1 : Int) < _; omega⟩
theorem ok_beat {s : St} (h : Ok s) {r : Int} (h0 : -9223372036854775808 ≤ r) (h1 : r < 9223372036854775808) : Ok (beat s r) := ⟨by show min 2 _ ≤ 2; omega, h.lo, h.hi, h0, h1⟩
theorem ok_sent {s : St} (h : Ok s) : Ok (sent s) := by
  unfold sent
  split
  · exact ⟨Nat.le_refl _, h.lo, h.hi, by show _ ≤ s.rank; have := h.lo; omega, h.hi⟩
  · exact h
theorem ok_watch {s : St} (h : Ok s) : Ok (watch s) := ⟨Nat.zero_le _, h.lo, h.hi, by show -9223372036854775808 ≤ (-1 : Int); omega, by show (-1 : Int) < _; omega⟩
/-- Who has no rank never leads. -/
theorem never {s : St} (h : s.rank < 0) : leads s = false ∧ stands s = false := by
  unfold leads stands
  rw [decide_eq_false (by omega : ¬ 0 ≤ s.rank)]
  exact ⟨rfl, rfl⟩
theorem rank_beat (s : St) (r : Int) : (beat s r).rank = s.rank := rfl
theorem rank_sent (s : St) : (sent s).rank = s.rank := by unfold sent; split <;> rfl
theorem rank_watch (s : St) : (watch s).rank = s.rank := rfl
end Go.Proofs.Ytimcjhnanjeloaa.Q22
