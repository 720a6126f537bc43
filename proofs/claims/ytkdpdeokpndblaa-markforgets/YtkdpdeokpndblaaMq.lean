/- Plain mathematics of a mark: where a cycle began; nothing of the program is in it. -/
import Derived.Test.YtkdpdeokpndblaaCk
namespace Go.Proofs.Ytkdpdeokpndblaa.Mq
/-- The last start; the cycle's beginning and its number. -/
structure St where
  start : Option Nat
  beg : Option (Nat × Nat)
def no : St := ⟨none, none⟩
def hold (c : Int) : Nat := (max 0 (min c 7)).toNat
def begin (m : St) (t : Nat) : St := { m with start := some t }
def beat (m : St) (c : Int) : St := match m.start with | some s => { m with beg := some (s, hold c) } | none => m
def is (m : St) : Bool := m.beg.isSome
def last (m : St) : Nat := match m.beg with | some b => b.1 | none => 0
def cycle (m : St) : Nat := match m.beg with | some b => b.2 | none => 0
def tell (m : St) (t : Nat) : Nat := match m.beg with | some b => Ck.since b.1 t | none => 0
structure Ok (m : St) : Prop where
  st : ∀ t, m.start = some t → t < 65536
  bg : ∀ b, m.beg = some b → b.1 < 65536 ∧ b.2 ≤ 7
theorem hold_le (c : Int) : hold c ≤ 7 := by unfold hold; omega
theorem hold_nat (c : Nat) (h : c ≤ 7) : hold (c : Int) = c := by unfold hold; omega
theorem since_lt (a b : Nat) : Ck.since a b < 65536 := by unfold Ck.since; omega
theorem tell_lt (m : St) (t : Nat) : tell m t < 65536 := by
  unfold tell
  split
  · exact since_lt _ _
  · decide
theorem ok_no : Ok no := ⟨(fun t h => by cases h), (fun b h => by cases h)⟩
theorem ok_begin {m : St} (h : Ok m) {t : Nat} (ht : t < 65536) : Ok (begin m t) := ⟨fun s e => by cases e; exact ht, h.bg⟩
theorem ok_beat {m : St} (h : Ok m) (c : Int) : Ok (beat m c) := by
  obtain ⟨s, b⟩ := m
  cases s with
  | none => exact h
  | some s => exact ⟨h.st, fun b e => by cases e; exact ⟨h.st s rfl, hold_le c⟩⟩
theorem ok_last {m : St} (h : Ok m) : last m < 65536 := by
  unfold last
  split
  · rename_i b e; exact (h.bg b e).1
  · decide
theorem ok_cycle {m : St} (h : Ok m) : cycle m ≤ 7 := by
  unfold cycle
  split
  · rename_i b e; exact (h.bg b e).2
  · decide
end Go.Proofs.Ytkdpdeokpndblaa.Mq
