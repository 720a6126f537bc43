/- Layer 14: of several errors the first one is told: plain. -/
import Derived.Test.YtdaiooelglablabDoorLq
namespace Go.Proofs.YtdaiooelglablabDoor.Lo
open Mx
set_option linter.unusedVariables false
def l14 : M := ⟨1, 2, 2, 400, 2, 16, 0, 8, [0], [⟨99, 1, false⟩], []⟩
/-- What the law makes of so many bits. -/
def s1 (b : Bool) (m : M) : M := if b then { m with windows := [⟨1, 40, 90, 0, 1, 7⟩] } else m
def s2 (b : Bool) (m : M) : M := if b then { m with messages := m.messages ++ [⟨9, 0, false⟩] } else m
def s3 (b : Bool) (m : M) : M := if b then { m with masters := [0, 0] } else m
def s4 (b : Bool) (m : M) : M := if b then { m with messages := [⟨99, 2, false⟩] } else m
def s5 (b : Bool) (m : M) : M := if b then { m with masters := [2] } else m
def s6 (b : Bool) (m : M) : M := if b then { m with length := 37 } else m
def M6 (b1 b2 b3 b4 b5 b6 : Bool) : M := s6 b6 (s5 b5 (s4 b4 (s3 b3 (s2 b2 (s1 b1 l14)))))
def ans (b1 b2 b3 b4 b5 b6 : Bool) : Int × Int :=
  if b6 && b1 then (0, 120) else if b6 then (0, 140) else if b5 then (0, 141) else if b4 then (0, 141) else if b3 then (1, 142) else if b2 then (1, 142) else if b1 then (0, 145) else (0, 0)
set_option maxRecDepth 100000 in
theorem check_ans (b1 b2 b3 b4 b5 b6 : Bool) : Lq.check (M6 b1 b2 b3 b4 b5 b6) = ans b1 b2 b3 b4 b5 b6 := by
  revert b1 b2 b3 b4 b5 b6
  decide
theorem M6_small (b1 b2 b3 b4 b5 b6 : Bool) : Small (M6 b1 b2 b3 b4 b5 b6) := by
  have : (M6 b1 b2 b3 b4 b5 b6).masters.length ≤ 1000 ∧ (M6 b1 b2 b3 b4 b5 b6).messages.length ≤ 1000 ∧ (M6 b1 b2 b3 b4 b5 b6).windows.length ≤ 1000 := by
    revert b1 b2 b3 b4 b5 b6
    decide
  exact ⟨this.1, this.2.1, this.2.2⟩
end Go.Proofs.YtdaiooelglablabDoor.Lo
