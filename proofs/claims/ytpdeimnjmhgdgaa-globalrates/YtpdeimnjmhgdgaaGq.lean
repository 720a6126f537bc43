/- Plain mathematics of one time for all; nothing of the program is in it. -/
import Derived.Test.YtpdeimnjmhgdgaaCk
namespace Go.Proofs.Ytpdeimnjmhgdgaa.Gq
/-- A beat: whose, what it told, where it was here. -/
structure B where
  who : Int
  g : Nat
  m : Nat
/-- No beat; one of its row; more: the last one, the one ahead of it, how many. -/
inductive St where
  | no
  | one (b : B)
  | more (b : B) (og om n : Nat)
def steady : St → Nat
  | .no => 0
  | .one _ => 1
  | .more _ _ _ n => n
def beat (s : St) (who : Int) (g m : Nat) (disc : Bool) : St := match s with
  | .no => .one ⟨who, g, m⟩
  | .one b => if b.who = who ∧ disc = false then .more ⟨who, g, m⟩ b.g b.m 2 else .one ⟨who, g, m⟩
  | .more b _ _ n => if b.who = who ∧ disc = false then .more ⟨who, g, m⟩ b.g b.m (min 1000 (n + 1)) else .one ⟨who, g, m⟩
def off (b : B) (t : Nat) : Nat := (t + (b.g + 65536 - b.m)) % 65536
def tell (s : St) (t : Nat) : Nat := match s with
  | .no => t
  | .one b => off b t
  | .more b _ _ _ => off b t
def la (s : St) : Nat := match s with
  | .more b og _ _ => Ck.since og b.g
  | _ => 0
def lb (s : St) : Nat := match s with
  | .more b _ om _ => Ck.since om b.m
  | _ => 0
def lo (s : St) : Bool := match s with
  | .more _ _ _ _ => true
  | _ => false
def can (s : St) (num : Int) : Bool := decide (la s ≠ 0 ∧ lb s ≠ 0 ∧ 1 ≤ num ∧ num ≤ 1000000)
def rate (s : St) (num : Int) : Int := if can s num then (num * (lb s : Int)).tdiv (la s : Int) else num
def BOk (b : B) : Prop := b.g < 65536 ∧ b.m < 65536
def Ok (s : St) : Prop := match s with
  | .no => True
  | .one b => BOk b
  | .more b og om n => BOk b ∧ og < 65536 ∧ om < 65536 ∧ 2 ≤ n ∧ n ≤ 1000
theorem ok_no : Ok .no := trivial
theorem ok_beat {s : St} (h : Ok s) (who : Int) {g m : Nat} (hg : g < 65536) (hm : m < 65536) (disc : Bool) : Ok (beat s who g m disc) := by
  cases s with
  | no => exact ⟨hg, hm⟩
  | one b =>
    unfold beat
    dsimp only
    split
    · exact ⟨⟨hg, hm⟩, h.1, h.2, by decide, by decide⟩
    · exact ⟨hg, hm⟩
  | more b og om n =>
    obtain ⟨h1, h2, h3, h4, h5⟩ := h
    unfold beat
    dsimp only
    split
    · exact ⟨⟨hg, hm⟩, h1.1, h1.2, by omega, by omega⟩
    · exact ⟨hg, hm⟩
theorem off_lt (b : B) (t : Nat) : off b t < 65536 := Nat.mod_lt _ (by decide)
theorem off_on (who : Int) {g m d : Nat} (hg : g < 65536) (hm : m < 65536) : off ⟨who, g, m⟩ ((m + d) % 65536) = (g + d) % 65536 := by
  show ((m + d) % 65536 + (g + 65536 - m)) % 65536 = (g + d) % 65536
  omega
theorem off_at (who : Int) {g m : Nat} (hg : g < 65536) (hm : m < 65536) : off ⟨who, g, m⟩ m = g := by
  show (m + (g + 65536 - m)) % 65536 = g
  omega
theorem tell_lt (s : St) {t : Nat} (h : t < 65536) : tell s t < 65536 := by
  cases s with
  | no => exact h
  | one b => exact off_lt _ _
  | more b og om n => exact off_lt _ _
theorem since_lt (a b : Nat) : Ck.since a b < 65536 := by unfold Ck.since; omega
theorem la_lt (s : St) : la s < 65536 := by
  cases s with
  | no => decide
  | one b => exact (by decide : 0 < 65536)
  | more b og om n => exact since_lt _ _
theorem lb_lt (s : St) : lb s < 65536 := by
  cases s with
  | no => decide
  | one b => exact (by decide : 0 < 65536)
  | more b og om n => exact since_lt _ _
theorem steady_le {s : St} (h : Ok s) : steady s ≤ 1000 := by
  cases s with
  | no => decide
  | one b => exact (by decide : 1 ≤ 1000)
  | more b og om n => exact h.2.2.2.2
theorem tell_beat (s : St) (who : Int) (g m : Nat) (disc : Bool) (t : Nat) : tell (beat s who g m disc) t = off ⟨who, g, m⟩ t := by
  cases s with
  | no => rfl
  | one b => unfold beat; dsimp only; split <;> rfl
  | more b og om n => unfold beat; dsimp only; split <;> rfl
/-- Whose the last beat was. -/
def Last (s : St) (l : Int) : Prop := match s with
  | .no => True
  | .one b => b.who = l
  | .more b _ _ _ => b.who = l
theorem last_beat (s : St) (who : Int) (g m : Nat) (disc : Bool) : Last (beat s who g m disc) who := by
  cases s with
  | no => rfl
  | one b => unfold beat; dsimp only; split <;> rfl
  | more b og om n => unfold beat; dsimp only; split <;> rfl
theorem steady_beat {s : St} {l : Int} (h : Last s l) (hn : steady s < 1000) (who : Int) (g m : Nat) (disc : Bool) : steady (beat s who g m disc) = if 0 < steady s ∧ who = l ∧ disc = false then steady s + 1 else 1 := by
  cases s with
  | no => rfl
  | one b =>
    have h' : b.who = l := h
    subst h'
    unfold beat steady
    dsimp only
    by_cases hc : b.who = who ∧ disc = false
    · rw [if_pos hc, if_pos ⟨by decide, hc.1.symm, hc.2⟩]
    · rw [if_neg hc, if_neg (fun z => hc ⟨z.2.1.symm, z.2.2⟩)]
  | more b og om n =>
    have h' : b.who = l := h
    subst h'
    have hn' : n < 1000 := hn
    unfold beat steady
    dsimp only
    by_cases hc : b.who = who ∧ disc = false
    · rw [if_pos hc]
      dsimp only
      by_cases hz : 0 < n
      · rw [if_pos ⟨hz, hc.1.symm, hc.2⟩]; omega
      · rw [if_neg (fun z => hz z.1)]; omega
    · rw [if_neg hc, if_neg (fun z => hc ⟨z.2.1.symm, z.2.2⟩)]
theorem lo_steady {s : St} (h : Ok s) : lo s = decide (2 ≤ steady s) := by
  cases s with
  | no => rfl
  | one b => rfl
  | more b og om n => exact (decide_eq_true h.2.2.2.1).symm
end Go.Proofs.Ytpdeimnjmhgdgaa.Gq
