/- What the laws over package code share: frames that lie in blocks, integers that came in. -/
import Derived.Test.YthkaekpoicodeaaGreatDoorU2
import Derived.Test.YthkaekpoicodeaaGreatDoorUn
namespace Go.Proofs.YthkaekpoicodeaaGreatDoor
open Go.RowKit
theorem u32_nat {x : Int} (h : (Lit.int .u32 x).wf = true) : ∃ n : Nat, x = (n : Int) ∧ n < 4294967296 := by
  obtain ⟨h1, h2⟩ := bounds_u32 h
  obtain ⟨n, rfl⟩ := Int.eq_ofNat_of_zero_le h1
  exact ⟨n, rfl, by omega⟩
/-- A frame lies in a block. -/
def Lies (w : World) (g : Nat) (x : Bool) (n : Nat) (r : Bool) (d : ByteArray) : Prop := w.heap[g]? = some (.cells #[.bool x, .int .u32 n, .bool r, .string d] 35 (0, 0))
theorem Lies.on {w w' : World} {g : Nat} {x : Bool} {n : Nat} {r : Bool} {d : ByteArray} (h : Lies w g x n r d) (hb : Below w.heap.size w w') : Lies w' g x n r d := (hb.block g (Array.getElem?_eq_some_iff.1 h).1).trans h
theorem Lies.onB {w w' : World} {B g : Nat} {x : Bool} {n : Nat} {r : Bool} {d : ByteArray} (h : Lies w g x n r d) (hB : B = w.heap.size) (hb : Below B w w') : Lies w' g x n r d := by subst hB; exact h.on hb
theorem Lies.alloc {w : World} {g : Nat} {x : Bool} {n : Nat} {r : Bool} {d : ByteArray} (h : Lies w g x n r d) (o : Obj) : Lies (w.alloc o) g x n r d := h.on ((Below.refl _ _).alloc (Nat.le_refl _) _)
theorem Lies.lt {w : World} {g : Nat} {x : Bool} {n : Nat} {r : Bool} {d : ByteArray} (h : Lies w g x n r d) : g < w.heap.size := (Array.getElem?_eq_some_iff.1 h).1
theorem Lies.new (w : World) (x : Bool) (n : Nat) (r : Bool) (d : ByteArray) : Lies (w.alloc (.cells #[.bool x, .int .u32 n, .bool r, .string d] 35)) w.heap.size x n r d := heap_alloc_new _ _
theorem Lies.new2 (w : World) (o p : Obj) (x : Bool) (n : Nat) (r : Bool) (d : ByteArray) : Lies (((w.alloc o).alloc p).alloc (.cells #[.bool x, .int .u32 n, .bool r, .string d] 35)) (w.heap.size + 1 + 1) x n r d := by
  have h := heap_alloc_new ((w.alloc o).alloc p) (.cells #[.bool x, .int .u32 n, .bool r, .string d] 35)
  rw [show ((w.alloc o).alloc p).heap.size = w.heap.size + 1 + 1 from by simp] at h
  exact h
theorem Lies.c0 {w : World} {g : Nat} {x : Bool} {n : Nat} {r : Bool} {d : ByteArray} (h : Lies w g x n r d) : w.cell? ⟨g, 0, none⟩ = some (.bool x) := (four_cells h).1
theorem Lies.c1 {w : World} {g : Nat} {x : Bool} {n : Nat} {r : Bool} {d : ByteArray} (h : Lies w g x n r d) : w.cell? ⟨g, 1, none⟩ = some (.int .u32 n) := (four_cells h).2.1
theorem Lies.c2 {w : World} {g : Nat} {x : Bool} {n : Nat} {r : Bool} {d : ByteArray} (h : Lies w g x n r d) : w.cell? ⟨g, 2, none⟩ = some (.bool r) := (four_cells h).2.2.1
theorem Lies.c3 {w : World} {g : Nat} {x : Bool} {n : Nat} {r : Bool} {d : ByteArray} (h : Lies w g x n r d) : w.cell? ⟨g, 3, none⟩ = some (.string d) := (four_cells h).2.2.2.1
end Go.Proofs.YthkaekpoicodeaaGreatDoor
