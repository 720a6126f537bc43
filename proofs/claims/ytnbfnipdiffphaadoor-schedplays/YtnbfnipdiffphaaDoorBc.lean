/- Matrices in blocks: what all laws over them share. -/
import Derived.Test.YtnbfnipdiffphaaDoorB1
import Derived.Test.YtnbfnipdiffphaaDoorMo
import Derived.Test.YtnbfnipdiffphaaDoorPq
import Derived.WalkArith
namespace Go.Proofs.YtnbfnipdiffphaaDoor
open Go.RowKit Go.WideShapes
set_option linter.unusedVariables false
def Mx.nil0 : Mx.M := ⟨0, 0, 0, 0, 0, 0, 0, 0, [], [], []⟩
def Ma.nil0 : Ma := ⟨none, 0, none, 0, none, 0⟩
def Mx.few (m : Mx.M) : Bool := decide (m.masters.length ≤ 10) && decide (m.messages.length ≤ 20) && decide (m.windows.length ≤ 25)
theorem Mx.few_small {m : Mx.M} (h : Mx.few m = true) : Mx.Small m := by
  simp only [Mx.few, Bool.and_eq_true, decide_eq_true_eq] at h
  exact ⟨by omega, by omega, by omega⟩
theorem wfi {x : Int} (h : -9223372036854775808 ≤ x ∧ x ≤ 9223372036854775807) : (Lit.int .i64 x).wf = true := WalkArith.wf_i64 ⟨h.1, by omega⟩
theorem Mx.wf_is {m : Mx.M} (h : Mx.is m = true) : Mx.Wf m := by
  have n := Pq.num_of h
  refine ⟨wfi (by have := n.level; omega), wfi (by have := n.nodes; omega), wfi (by have := n.cycles; omega), wfi (by have := n.length; omega), wfi (by have := n.enable; omega), wfi (by have := n.unit; omega), wfi (by have := n.init; omega), by have := n.ref; omega, fun x hx => wfi (by have := n.masters x hx; omega), fun x hx => ?_, fun x hx => ?_⟩
  · have := n.messages x hx
    exact ⟨by omega, wfi (by omega)⟩
  · obtain ⟨h1, h2, h3, h4, h5, h6⟩ := n.windows x hx
    exact ⟨wfi (by omega), wfi (by omega), wfi (by omega), wfi (by omega), wfi (by omega), wfi (by omega)⟩
theorem Mx.small_is {m : Mx.M} (h : Mx.is m = true) : Mx.Small m := by
  have n := Pq.num_of h
  exact ⟨by have := n.l1; omega, by have := n.l2; omega, by have := n.l3; omega⟩
theorem Mx.small_nil : Mx.Small Mx.nil0 := ⟨by decide, by decide, by decide⟩
theorem Mx.wf_nil : Mx.Wf Mx.nil0 := ⟨rfl, rfl, rfl, rfl, rfl, rfl, rfl, by decide, (fun x hx => by cases hx), (fun x hx => by cases hx), (fun x hx => by cases hx)⟩
theorem min_nil (w : World) : MIn w Mx.nil0 Ma.nil0 := ⟨⟨Nat.le_refl _, Nat.zero_le _, Or.inl rfl⟩, ⟨Nat.le_refl _, Nat.zero_le _, Or.inl rfl⟩, ⟨Nat.le_refl _, Nat.zero_le _, Or.inl rfl⟩⟩
theorem Bx.next {W w : World} {p : Nat} {m n : Mx.M} {a b : Ma} (h : Bx W w p m a) (hn : MIn w n b) : Bx W (w.alloc (.cells (mCs n b) 27)) w.heap.size n b := by
  have hb : Below w.heap.size w (w.alloc (.cells (mCs n b) 27)) := (Below.refl _ _).alloc (Nat.le_refl _) _
  exact ⟨RowT.new _ _ _, hn.on hb, h.below.trans (hb.mono h.below.size)⟩
theorem Bx.make {W w : World} {n : Mx.M} {b : Ma} (hb : Below W.heap.size W w) (hn : MIn w n b) : Bx W (w.alloc (.cells (mCs n b) 27)) w.heap.size n b := by
  have hb2 : Below w.heap.size w (w.alloc (.cells (mCs n b) 27)) := (Below.refl _ _).alloc (Nat.le_refl _) _
  exact ⟨RowT.new _ _ _, hn.on hb2, hb.trans (hb2.mono hb.size)⟩
theorem Bx.al {W w : World} {p : Nat} {m : Mx.M} {a : Ma} (h : Bx W w p m a) (o : Obj) : Bx W (w.alloc o) p m a := h.on ((Below.refl _ _).alloc (Nat.le_refl _) _)
/-- A matrix written out, with masters alone. -/
theorem Bx.lit {W w : World} (hb : Below W.heap.size W w) (m : Mx.M) (k : Nat) (hk : m.masters.length = k) (hk1 : k ≤ 100) (h2 : m.messages = []) (h3 : m.windows = []) : Bx W ((w.alloc (.cells (m.masters.flatMap mC1).toArray 3)).alloc (.cells (mCs m ⟨some ⟨w.heap.size, 0, none⟩, k, none, 0, none, 0⟩) 27)) (w.heap.size + 1) m ⟨some ⟨w.heap.size, 0, none⟩, k, none, 0, none, 0⟩ := by
  have hb1 : Below w.heap.size w (w.alloc (.cells (m.masters.flatMap mC1).toArray 3)) := (Below.refl _ _).alloc (Nat.le_refl _) _
  have hm : MIn (w.alloc (.cells (m.masters.flatMap mC1).toArray 3)) m ⟨some ⟨w.heap.size, 0, none⟩, k, none, 0, none, 0⟩ := by
    refine ⟨⟨by rw [hk]; exact Nat.le_refl _, Nat.le_trans hk1 (by decide : 100 ≤ maxLen), Or.inr ⟨w.heap.size, 0, rfl, by simp, fun j v hj => by rw [cell_of_row _ _ _ _ _ _ (heap_alloc_new w _), Nat.zero_add, ← hj]; simp⟩⟩, ?_, ?_⟩
    · rw [h2]; exact ⟨Nat.le_refl _, Nat.zero_le _, Or.inl rfl⟩
    · rw [h3]; exact ⟨Nat.le_refl _, Nat.zero_le _, Or.inl rfl⟩
  have := Bx.make (hb.trans (hb1.mono hb.size)) hm
  have e : (w.alloc (.cells (m.masters.flatMap mC1).toArray 3)).heap.size = w.heap.size + 1 := by simp
  rw [e] at this
  exact this
end Go.Proofs.YtnbfnipdiffphaaDoor
