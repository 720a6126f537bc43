/- Layer 21, plain: a beat as a frame. Nothing of the program is in it. -/
import Derived.Test.YtnbfnipdiffphaaDoorMx
import Derived.Test.YtnbfnipdiffphaaDoorPq
import Derived.Test.YtnbfnipdiffphaaDoorU1
namespace Go.Proofs.YtnbfnipdiffphaaDoor.Q21
set_option linter.unusedVariables false
/-- A beat's bytes. -/
def data (m : Mx.M) (cycle : Int) (g : Nat) (d : Bool) : List UInt8 := if m.level = 2 then [Pq.u8 cycle, (if d then 1 else 0), Pq.u8 ((g : Int) / 256), Pq.u8 (g : Int)] else [Pq.u8 cycle]
def fits (m : Mx.M) (rank cycle : Int) : Bool := Mx.is m && (decide (0 ≤ rank) && (decide (rank < (m.masters.length : Int)) && (decide (0 ≤ cycle) && decide (cycle < m.cycles))))
/-- A beat's frame: its identifier, its bytes. -/
def build (m : Mx.M) (rank cycle : Int) (g : Nat) (d : Bool) : Option (Nat × ByteArray) := if fits m rank cycle then some (m.ref + rank.toNat, ⟨(data m cycle g d).toArray⟩) else none
structure Bt where
  rank : Int
  cycle : Int
  glob : Nat
  disc : Bool
deriving DecidableEq
def byte (d : ByteArray) (i : Nat) : Nat := match d.data[i]? with | some b => b.toNat | none => 0
/-- What a frame's bytes say, were they a beat's. -/
def told (m : Mx.M) (n : Nat) (d : ByteArray) : Bt :=
  if m.level = 2 ∧ d.size = 4 then ⟨((n - m.ref : Nat) : Int), (byte d 0 : Int), byte d 2 * 256 + byte d 3, byte d 1 == 1⟩ else ⟨((n - m.ref : Nat) : Int), (byte d 0 : Int), 0, false⟩
def parse (m : Mx.M) (x : Bool) (n : Nat) (r : Bool) (d : ByteArray) : Option Bt :=
  if Fm.isF x n r d.data.toList && (!x && (!r && (decide (m.ref ≤ n) && decide (1 ≤ d.size)))) then (if build m (told m n d).rank (told m n d).cycle (told m n d).glob (told m n d).disc = some (n, d) then some (told m n d) else none) else none
theorem fits_lt {m : Mx.M} {rank cycle : Int} (h : fits m rank cycle = true) : Mx.is m = true ∧ 0 ≤ rank ∧ rank < 4 ∧ rank < (m.masters.length : Int) ∧ 0 ≤ cycle ∧ cycle < m.cycles ∧ m.cycles ≤ 8 ∧ m.ref < 2048 := by
  simp only [fits, Bool.and_eq_true, decide_eq_true_eq] at h
  obtain ⟨h1, h2, h3, h4, h5⟩ := h
  have hi := h1
  simp only [Mx.is, Mx.lens, Mx.scal, Mx.within, Mx.power, Bool.and_eq_true, decide_eq_true_eq] at hi
  refine ⟨h1, h2, ?_, h3, h4, h5, ?_, ?_⟩ <;> omega
end Go.Proofs.YtnbfnipdiffphaaDoor.Q21
