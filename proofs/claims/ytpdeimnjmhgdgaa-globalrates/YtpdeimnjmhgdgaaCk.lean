/- Plain mathematics of a clock: ticks to units of time; nothing of the program is in it. -/
import Derived.Test.YtpdeimnjmhgdgaaRows
namespace Go.Proofs.Ytpdeimnjmhgdgaa.Ck
structure St where
  t : Nat
  part : Nat
  num : Nat
  unit : Nat
def hold (u : Int) : Nat := (max 1 (min u 64)).toNat
def ticks (n : Int) : Nat := (max 0 (min n 8)).toNat
def new (u : Int) : St := ⟨0, 0, 256 * hold u, hold u⟩
def tick (c : St) (n : Int) : St := { c with t := (c.t + (c.part + 256 * ticks n) / c.num) % 65536, part := (c.part + 256 * ticks n) % c.num }
def may (c : St) (num den : Int) : Bool := decide (den = 256 ∧ 224 * (c.unit : Int) ≤ num ∧ num ≤ 288 * (c.unit : Int))
def set (c : St) (num : Int) : St := { c with num := num.toNat, part := min c.part (num.toNat - 1) }
def setRate (c : St) (num den : Int) : St := if may c num den then set c num else c
structure Ok (c : St) : Prop where
  u1 : 1 ≤ c.unit
  u2 : c.unit ≤ 64
  n1 : 224 * c.unit ≤ c.num
  n2 : c.num ≤ 288 * c.unit
  p : c.part < c.num
  t : c.t < 65536
theorem hold_in (u : Int) : 1 ≤ hold u ∧ hold u ≤ 64 := by unfold hold; omega
theorem ticks_le (n : Int) : ticks n ≤ 8 := by unfold ticks; omega
theorem ok_new (u : Int) : Ok (new u) := by
  have h := hold_in u
  exact ⟨h.1, h.2, by show 224 * hold u ≤ 256 * hold u; omega, by show 256 * hold u ≤ 288 * hold u; omega, by show 0 < 256 * hold u; omega, by show 0 < 65536; omega⟩
theorem ok_tick {c : St} (h : Ok c) (n : Int) : Ok (tick c n) :=
  ⟨h.u1, h.u2, h.n1, h.n2, Nat.mod_lt _ (by have := h.p; omega), Nat.mod_lt _ (by decide)⟩
theorem ok_set {c : St} (h : Ok c) (num den : Int) : Ok (setRate c num den) := by
  unfold setRate
  cases hm : may c num den
  · exact h
  · have hm' : den = 256 ∧ 224 * (c.unit : Int) ≤ num ∧ num ≤ 288 * (c.unit : Int) := of_decide_eq_true hm
    obtain ⟨_, h1, h2⟩ := hm'
    have hu := h.u1
    have hu2 := h.u2
    exact ⟨h.u1, h.u2, by show 224 * c.unit ≤ num.toNat; omega, by show num.toNat ≤ 288 * c.unit; omega, by show min c.part (num.toNat - 1) < num.toNat; omega, h.t⟩
def since (a b : Nat) : Nat := (b + 65536 - a) % 65536
theorem tick_of {c : St} (n : Int) (k : Nat) (hk : ticks n = k) : tick c n = { c with t := (c.t + (c.part + 256 * k) / c.num) % 65536, part := (c.part + 256 * k) % c.num } := by unfold tick; rw [hk]
theorem ticks_nat (k : Nat) (h : k ≤ 8) : ticks (k : Int) = k := by unfold ticks; omega
theorem hold_nat (u : Nat) (h1 : 1 ≤ u) (h2 : u ≤ 64) : hold (u : Int) = u := by unfold hold; omega
/-- So many ticks from the beginning, a rate of n over 256. -/
theorem from_start (n S : Nat) (hn : 0 < n) (k : Nat) : ((S * 256 / n) + (S * 256 % n + 256 * k) / n) = (S + k) * 256 / n ∧ (S * 256 % n + 256 * k) % n = (S + k) * 256 % n := by
  have e : (S + k) * 256 = n * (S * 256 / n) + (S * 256 % n + 256 * k) := by
    have := Nat.div_add_mod (S * 256) n
    omega
  rw [e]
  refine ⟨?_, ?_⟩
  · rw [Nat.mul_add_div hn]
  · rw [Nat.mul_add_mod]
/-- So many ticks since the beginning. -/
def st (n u S : Nat) : St := ⟨S * 256 / n, S * 256 % n, n, u⟩
theorem st_tick (n u S k : Nat) (hn : 0 < n) (hk : k ≤ 8) (hb : (S + k) * 256 / n < 65536) : tick (st n u S) (k : Int) = st n u (S + k) := by
  rw [tick_of _ k (ticks_nat k hk)]
  obtain ⟨h1, h2⟩ := from_start n S hn k
  unfold st
  dsimp only
  rw [h1, h2, Nat.mod_eq_of_lt hb]
theorem st_new (u : Nat) (h1 : 1 ≤ u) (h2 : u ≤ 64) : new (u : Int) = st (256 * u) u 0 := by
  unfold new st
  rw [hold_nat u h1 h2]
  simp
theorem hold_hold (u : Int) : hold (max 1 (min u 64)) = hold u := by unfold hold; omega
theorem ticks_ticks (n : Int) : ticks (max 0 (min n 8)) = ticks n := by unfold ticks; omega
theorem new_hold (u : Int) : new (max 1 (min u 64)) = new u := by unfold new; rw [hold_hold]
theorem tick_ticks (c : St) (n : Int) : tick c (max 0 (min n 8)) = tick c n := by unfold tick; rw [ticks_ticks]
end Go.Proofs.Ytpdeimnjmhgdgaa.Ck
