/- How the document's own text of layer 2 holds a run: a count and a sign; plain mathematics. -/
import Derived.Test.YtcgpnnmceijmjabSm2
import Derived.Test.YtcgpnnmceijmjabBm5
namespace Go.Proofs.Ytcgpnnmceijmjab.Sm
open Go.Proofs.Ytcgpnnmceijmjab (Bm.sign Bm.isOne)

def wb (c : Int) : Int := if c = 49 then 49 else 48
def wn (n x c : Int) : Int := if 0 < n ∧ x = wb c then n + 1 else 1
def sg (b : Bool) : Int := if b then 49 else 48
/-- the sign that a run holds: 0 where there is none -/
def sv (r : Nat × Bool) : Int := if r.1 = 0 then 0 else sg r.2
theorem sg_sign (b : Bool) : sg b = ((Bm.sign b).toNat : Int) := by cases b <;> rfl
theorem wb_byte (c : UInt8) : wb (c.toNat : Int) = sg (Bm.isOne c) := by
  have h := Bm.isOne_dec c
  unfold wb sg
  by_cases e : (c.toNat : Int) = 49
  · rw [if_pos e, ← h, e]; rfl
  · rw [if_neg e, ← h, beq_eq_false_iff_ne.2 e]; rfl
theorem sg_inj (a b : Bool) : sg a = sg b ↔ a = b := by cases a <;> cases b <;> decide
theorem wn_step (r : Nat × Bool) (c : UInt8) : wn (r.1 : Int) (sv r) (c.toNat : Int) = ((step r (Bm.isOne c)).1 : Int) := by
  unfold wn step sv
  rw [wb_byte]
  by_cases h0 : r.1 = 0
  · rw [if_neg (by omega), if_neg (by omega)]; rfl
  · rw [if_neg h0]
    by_cases hb : r.2 = Bm.isOne c
    · rw [if_pos ⟨by omega, (sg_inj _ _).2 hb⟩, if_pos ⟨by omega, hb⟩]; rfl
    · rw [if_neg (fun h => hb ((sg_inj _ _).1 h.2)), if_neg (fun h => hb h.2)]; rfl
theorem sv_step (r : Nat × Bool) (c : UInt8) : wb (c.toNat : Int) = sv (step r (Bm.isOne c)) := by
  have hp := step_pos r (Bm.isOne c)
  unfold sv
  rw [if_neg (by omega), step_snd, wb_byte]
theorem sv_sign (r : Nat × Bool) (h : 0 < r.1) : sv r = ((Bm.sign r.2).toNat : Int) := by unfold sv; rw [if_neg (by omega), sg_sign]
theorem wb_le (c : Int) : 0 ≤ wb c ∧ wb c ≤ 255 := by unfold wb; split <;> omega
theorem sv_le (r : Nat × Bool) : 0 ≤ sv r ∧ sv r ≤ 255 := by
  unfold sv sg
  split
  · omega
  · split <;> omega
/-- a number held from 0 to 10000 -/
def hold (n : Int) : Nat := (max 0 (min n 10000)).toNat
theorem hold_nat (n : Nat) (h : n ≤ 10000) : hold (n : Int) = n := by unfold hold; omega
/-- the other sign -/
def ob (c : Int) : Int := if c = 49 then 48 else 49
theorem ob_sv (r : Nat × Bool) (h : 0 < r.1) : ob (sv r) = sv (1, !r.2) := by
  have h0 : ¬ r.1 = 0 := by omega
  have e1 : sv r = sg r.2 := by unfold sv; rw [if_neg h0]
  have e2 : sv (1, !r.2) = sg (!r.2) := by unfold sv; rw [if_neg (by simp)]
  rw [e1, e2]
  cases r.2 <;> decide
end Go.Proofs.Ytcgpnnmceijmjab.Sm
