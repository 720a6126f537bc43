/- Plain mathematics of events that wait: put behind all others, taken from the front; nothing of the program is in it. -/
import Derived.Test.YtkgeknkppnadfaaRows
namespace Go.Proofs.Ytkgeknkppnadfaa.Vq
set_option linter.unusedVariables false
structure Dl where
  msg : Int
  data : ByteArray
deriving DecidableEq
def Dl.no : Dl := ⟨0, ByteArray.empty⟩
structure St where
  room : Nat
  l : List Dl
def held (r : Int) : Nat := (max 1 (min r 4)).toNat
theorem held_rng (r : Int) : 1 ≤ held r ∧ held r ≤ 4 := by unfold held; omega
theorem held_eq {r : Int} {k : Nat} (h : r = (k : Int)) (h1 : 1 ≤ k) (h2 : k ≤ 4) : held r = k := by unfold held; omega
def Ok (s : St) : Prop := 1 ≤ s.room ∧ s.room ≤ 4 ∧ s.l.length ≤ s.room
def putS (s : St) (d : Dl) : St := if s.l.length < s.room then { s with l := s.l ++ [d] } else s
def putE (s : St) : Int := if s.l.length < s.room then 0 else 170
def takeS (s : St) : St := { s with l := s.l.tail }
def hd (s : St) : Dl := s.l.headD Dl.no
def takeE (s : St) : Int := if s.l.length = 0 then 171 else 0
theorem ok_put {s : St} (h : Ok s) (d : Dl) : Ok (putS s d) := by
  unfold putS
  split
  · obtain ⟨a, b, c⟩ := h
    refine ⟨a, b, ?_⟩
    show (s.l ++ [d]).length ≤ s.room
    rw [List.length_append]
    show s.l.length + 1 ≤ s.room
    omega
  · exact h
theorem ok_take {s : St} (h : Ok s) : Ok (takeS s) := by
  obtain ⟨a, b, c⟩ := h
  refine ⟨a, b, ?_⟩
  show s.l.tail.length ≤ s.room
  rw [List.length_tail]
  omega
end Go.Proofs.Ytkgeknkppnadfaa.Vq
