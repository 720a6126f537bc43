/- A node that listens to a frame, bit by bit. -/
import Derived.Test.YthkaekpoicodeaaGreatDoorMi
namespace Go.Proofs.YthkaekpoicodeaaGreatDoor
set_option linter.unusedVariables false
/-- Listening to f, ahead of bit i; what waits: h, g. -/
def Mm.hs (h : Bool) (g : Cm.Fr) (f : Cm.Fr) (i : Nat) : Mm.St :=
  if i = 0 then Mm.idS h g [] false 0 0 else if i < (Mm.outB f).length then ⟨.inFr, 0, false, false, h, decide (i + 1 = (Mm.outB f).length), g, (Mm.ackB f).take i, 0, 0⟩
  else ⟨.pause, 3, false, false, h, true, g, (Mm.ackB f).take ((Mm.outB f).length - 1), 0, 0⟩
theorem Mm.hs_zero (g : Cm.Fr) {f : Cm.Fr} (hf : Mm.isFr f = true) : Mm.sample (Mm.hs false g f 0) ((Mm.ackB f).getD 0 true) = (Mm.hs false g f 1, [⟨6, Cm.noF, 0⟩]) := by
  have hl := (Mm.out_len hf).1
  rw [Mm.ack_first hf]
  unfold Mm.hs
  rw [if_pos rfl, if_neg (by decide), if_pos (by omega), Mm.ack_zero hf, decide_eq_false (by omega)]
  rfl
theorem Mm.hs_bit (h : Bool) (g : Cm.Fr) {f : Cm.Fr} (hf : Mm.isFr f = true) (i : Nat) (h0 : 0 < i) (hi : i + 1 < (Mm.outB f).length) : Mm.sample (Mm.hs h g f i) ((Mm.ackB f).getD i true) = (Mm.hs h g f (i + 1), if i + 2 = (Mm.outB f).length then [⟨2, f, 0⟩] else []) := by
  unfold Mm.hs
  rw [if_neg (by omega), if_pos (by omega), if_neg (by omega), if_pos hi, decide_eq_false (show ¬ i + 1 = _ by omega)]
  rw [Mm.lis_bit hf (m := ⟨.inFr, 0, false, false, h, false, g, (Mm.ackB f).take i, 0, 0⟩) rfl rfl rfl rfl hi]
  by_cases h2 : i + 2 = (Mm.outB f).length
  · rw [if_pos h2, if_pos h2, decide_eq_true (show i + 1 + 1 = _ by omega)]
    rfl
  · rw [if_neg h2, if_neg h2, decide_eq_false (show ¬ i + 1 + 1 = _ by omega)]
theorem Mm.hs_last (h : Bool) (g : Cm.Fr) {f : Cm.Fr} (hf : Mm.isFr f = true) (i : Nat) (hi : i + 1 = (Mm.outB f).length) (c : Bool) : Mm.sample (Mm.hs h g f i) c = (Mm.hs h g f (i + 1), []) := by
  have hl := (Mm.out_len hf).1
  unfold Mm.hs
  rw [if_neg (by omega), if_pos (by omega), if_neg (by omega), if_neg (by omega), decide_eq_true hi]
  rw [Mm.lis_end (m := ⟨.inFr, 0, false, false, h, true, g, (Mm.ackB f).take i, 0, 0⟩) rfl rfl rfl c]
  have e : i = (Mm.outB f).length - 1 := by omega
  rw [← e]
theorem Mm.hs_drive (h : Bool) (g : Cm.Fr) {f : Cm.Fr} (hf : Mm.isFr f = true) (i : Nat) (hi : i < (Mm.outB f).length) (h0 : i = 0 → h = false) : Mm.drive (Mm.hs h g f i) = !decide (i = (Mm.outB f).length - 9) := by
  have hl := (Mm.out_len hf).1
  unfold Mm.hs
  by_cases hz : i = 0
  · rw [if_pos hz, decide_eq_false (by omega), h0 hz]
    rfl
  · rw [if_neg hz, if_pos hi]
    exact Mm.lis_drive hf (m := ⟨.inFr, 0, false, false, h, decide (i + 1 = (Mm.outB f).length), g, (Mm.ackB f).take i, 0, 0⟩) rfl rfl rfl hi
theorem Mm.hs_end (h : Bool) (g : Cm.Fr) {f : Cm.Fr} (hf : Mm.isFr f = true) : Mm.hs h g f (Mm.outB f).length = ⟨.pause, 3, false, false, h, true, g, (Mm.ackB f).take ((Mm.outB f).length - 1), 0, 0⟩ := by
  have hl := (Mm.out_len hf).1
  unfold Mm.hs
  rw [if_neg (by omega), if_neg (by omega)]
end Go.Proofs.YthkaekpoicodeaaGreatDoor
