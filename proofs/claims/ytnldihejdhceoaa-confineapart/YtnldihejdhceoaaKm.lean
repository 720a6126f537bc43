/- Plain mathematics of counters of errors; nothing of the program is in it. -/
import Derived.Test.YtnldihejdhceoaaRows
namespace Go.Proofs.Ytnldihejdhceoaa.Km
def isC (s g : Int) : Bool := decide (0 ≤ s ∧ s ≤ 1000 ∧ 0 ≤ g ∧ g ≤ 1000)
def sentV (s : Int) (ok : Bool) : Int := if ok then max 0 (s - 1) else min 1000 (s + 8)
def gotV (g : Int) (ok : Bool) : Int := if ok then (if 127 < g then 120 else max 0 (g - 1)) else min 1000 (g + 1)
def sentS (s g : Int) (ok : Bool) : Int := if isC s g then sentV s ok else s
def gotG (s g : Int) (ok : Bool) : Int := if isC s g then gotV g ok else g
def offC (s : Int) : Bool := decide (256 ≤ s)
def pasC (s g : Int) : Bool := !offC s && (decide (128 ≤ s) || decide (128 ≤ g))
theorem isC_true {s g : Int} (h1 : 0 ≤ s) (h2 : s ≤ 1000) (h3 : 0 ≤ g) (h4 : g ≤ 1000) : isC s g = true := decide_eq_true ⟨h1, h2, h3, h4⟩
theorem isC_parts {s g : Int} (h : isC s g = true) : 0 ≤ s ∧ s ≤ 1000 ∧ 0 ≤ g ∧ g ≤ 1000 := of_decide_eq_true h
theorem sentV_range {s : Int} (ok : Bool) (h1 : 0 ≤ s) (h2 : s ≤ 1000) : 0 ≤ sentV s ok ∧ sentV s ok ≤ 1000 := by unfold sentV; split <;> omega
theorem gotV_range {g : Int} (ok : Bool) (h1 : 0 ≤ g) (h2 : g ≤ 1000) : 0 ≤ gotV g ok ∧ gotV g ok ≤ 1000 := by
  unfold gotV
  split
  · split <;> omega
  · omega
end Go.Proofs.Ytnldihejdhceoaa.Km
