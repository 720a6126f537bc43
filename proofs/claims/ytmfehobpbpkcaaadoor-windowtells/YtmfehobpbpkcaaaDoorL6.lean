/- Layer 14: what package check is said to do, whatever it is made of; law 14's own few, least, known. -/
import Derived.Test.YtmfehobpbpkcaaaDoorMb
import Derived.Test.YtmfehobpbpkcaaaDoorLq
import Derived.Deep.CutBlock
import Derived.WalkSpells
namespace Go.Proofs.YtmfehobpbpkcaaaDoor
open Go.RowKit Go.WideShapes
set_option linter.unusedVariables false
structure CheckSpec (Q : World → Prop) : Prop where
  check : ∀ (w : World) (m : Mx.M) (a : Ma), Q w → MIn w m a → Mx.Small m → Mx.Wf m → Ob.Looks Tryd.prog 25 #[mV m a] w (.tuple #[.int .i64 (Lq.check m).1, .int .i64 (Lq.check m).2])
  units : ∀ (w : World) (m : Mx.M) (a : Ma) (bits : Int), Q w → MIn w m a → Mx.Small m → Mx.Wf m → (Lit.int .i64 bits).wf = true → Ob.Looks Tryd.prog 47 #[mV m a, .int .i64 bits] w (.int .i64 (Lq.units m.unit bits))
  step : ∀ (w : World) (m : Mx.M) (a : Ma), Q w → MIn w m a → Mx.Small m → Mx.Wf m → Ob.Looks Tryd.prog 32 #[mV m a] w (.int .i64 (Lq.step m))
  meet : ∀ (w : World) (m : Mx.M) (a : Ma) (i j : Int), Q w → MIn w m a → Mx.Small m → Mx.Wf m → (Lit.int .i64 i).wf = true → (Lit.int .i64 j).wf = true → Ob.Looks Tryd.prog 62 #[mV m a, .int .i64 i, .int .i64 j] w (.bool (Lq.meet m i j))
/-- Three lists of one's own. -/
structure Ow (B : Nat) (w : World) (m : Mx.M) (a : Ma) : Prop where
  o1 : Sg.OL 3 1 B w a.s1 a.c1 m.masters.length (m.masters.flatMap mC1)
  o2 : Sg.OL 34 3 B w a.s2 a.c2 m.messages.length (m.messages.flatMap mC2)
  o3 : Sg.OL 32 6 B w a.s3 a.c3 m.windows.length (m.windows.flatMap mC3)
theorem Mb.of {W w : World} {m : Mx.M} {a : Ma} (h : Ow W.heap.size w m a) (hb : Below W.heap.size W w) : Mb W (w.alloc (.cells (mCs m a) 27)) w.heap.size m a := by
  have hb2 : Below w.heap.size w (w.alloc (.cells (mCs m a) 27)) := (Below.refl _ _).alloc (Nat.le_refl _) _
  exact ⟨hb.trans (hb2.mono hb.size), hb.size, RowT.new _ _ _, h.o1.on hb2, h.o2.on hb2, h.o3.on hb2⟩
theorem Ow.mono {B B' : Nat} {w : World} {m : Mx.M} {a : Ma} (h : Ow B w m a) (hB : B' ≤ B) : Ow B' w m a := ⟨h.o1.mono hB, h.o2.mono hB, h.o3.mono hB⟩
def Mx.l14 : Mx.M := ⟨1, 2, 2, 400, 2, 16, 0, 8, [0], [⟨99, 1, false⟩], []⟩
def Mx.k14a : Mx.M := { Mx.l14 with windows := [⟨1, 40, 80, 0, 1, 0⟩, ⟨3, 79, 81, 0, 1, 0⟩] }
def Mx.k14b : Mx.M := { Mx.l14 with windows := [⟨1, 40, 80, 0, 1, 0⟩, ⟨3, 80, 81, 0, 1, 0⟩] }
def Mx.k14c : Mx.M := { Mx.k14b with masters := [0, 0] }
theorem ck0 : Lq.check Mx.l14 = (0, 0) := by decide
theorem ck1 : Lq.check Mx.k14a = (1, 143) := by decide
theorem ck2 : Lq.check Mx.k14b = (0, 0) := by decide
theorem ck3 : Lq.check Mx.k14c = (1, 142) := by decide
theorem ck4 : Lq.units Mx.k14c.unit 140 = 36 := by decide
theorem ck5 : Lq.step Mx.k14c = 38 := by decide
theorem ck6 : Lq.meet Mx.k14c 0 1 = false := by decide
theorem wf14 (m : Mx.M) (h : Mx.is m = true) : Mx.Wf m := Mx.wf_is h
end Go.Proofs.YtmfehobpbpkcaaaDoor
