/- An array of three bytes that came in: taken apart, put together. -/
import Derived.Test.YtaphdehhnnglgaaDoorTb
import Derived.Laws.IdiomArrays
namespace Go.Proofs.YtaphdehhnnglgaaDoor
open Go.ChangeShapes Go.WideShapes Go.ChangeAt Go.RowKit
theorem open_arr3 {H : Type} {enc : TypeId × Value → H} {w : World} {base b0 : Nat} {r : Reach} {sp : Nat → Bool} {held : Bool} {v : Value} {d : DataW H} {p : List MemPlace} (hv : Value.okWide Tryd.prog w r b0 36 v) (h : DataW.Trod enc Tryd.prog w base sp held 36 v d p) :
    ∃ a b c : Int, v = .agg #[.int .u8 a, .int .u8 b, .int .u8 c] ∧ d = .agg [.lit (.int .u8 a), .lit (.int .u8 b), .lit (.int .u8 c)] ∧ p = [] ∧ (Lit.int .u8 a).wf = true ∧ (Lit.int .u8 b).wf = true ∧ (Lit.int .u8 c).wf = true := by
  have hu := Tryd.underlying36
  have hC : Tryd.prog.cellsOf 36 = 3 := by kernel_rfl
  have hc1 : Tryd.prog.cellsOf 5 = 1 := by kernel_rfl
  simp only [Value.okWide, hu] at hv
  obtain ⟨cs, rfl, hsz, _⟩ := hv
  rw [hC] at hsz
  obtain ⟨c0, c1, c2, rfl⟩ := Joins.array3 hsz
  obtain ⟨fuel, hf⟩ := h
  obtain ⟨y0, y1, y2, n, hx, h0, h1, h2⟩ := trod_array3 (c0 := c0) (c1 := c1) (c2 := c2) hu hc1 (by simpa [Value.cells] using hf)
  obtain ⟨a, e0, rfl, w0⟩ := DataW.trod_int Tryd.underlying5 h0
  obtain ⟨b, e1, rfl, w1⟩ := DataW.trod_int Tryd.underlying5 h1
  obtain ⟨c, e2, rfl, w2⟩ := DataW.trod_int Tryd.underlying5 h2
  obtain rfl := List.singleton_inj.1 e0
  obtain rfl := List.singleton_inj.1 e1
  obtain rfl := List.singleton_inj.1 e2
  simp only [Prod.mk.injEq] at hx
  exact ⟨a, b, c, rfl, hx.1, by simpa using hx.2, w0, w1, w2⟩
theorem shut_arr3 {H : Type} {enc : TypeId × Value → H} {w : World} {base : Nat} {sp : Nat → Bool} {held : Bool} {a b c : Int} (w0 : (Lit.int .u8 a).wf = true) (w1 : (Lit.int .u8 b).wf = true) (w2 : (Lit.int .u8 c).wf = true) :
    DataW.Trod enc Tryd.prog w base sp held 36 (.agg #[.int .u8 a, .int .u8 b, .int .u8 c]) (.agg [.lit (.int .u8 a), .lit (.int .u8 b), .lit (.int .u8 c)]) [] := by
  have hC : Tryd.prog.cellsOf 36 = 3 := by kernel_rfl
  have hc1 : Tryd.prog.cellsOf 5 = 1 := by kernel_rfl
  exact ⟨2, by simp [DataW.trod, Value.cells, Tryd.underlying36, Tryd.underlying5, hC, hc1, w0, w1, w2, show List.range 3 = [0, 1, 2] from rfl]⟩
/-- An array of three bytes lies in a block. -/
def Arr3 (w : World) (g : Nat) (a b c : Nat) : Prop := w.heap[g]? = some (.cells #[.int .u8 (a : Int), .int .u8 (b : Int), .int .u8 (c : Int)] 36 (0, 0))
theorem Arr3.on {w w' : World} {g a b c : Nat} (h : Arr3 w g a b c) (hb : Below w.heap.size w w') : Arr3 w' g a b c := (hb.block g (Array.getElem?_eq_some_iff.1 h).1).trans h
theorem Arr3.alloc {w : World} {g a b c : Nat} (h : Arr3 w g a b c) (o : Obj) : Arr3 (w.alloc o) g a b c := h.on ((Below.refl _ _).alloc (Nat.le_refl _) _)
theorem Arr3.lt {w : World} {g a b c : Nat} (h : Arr3 w g a b c) : g < w.heap.size := (Array.getElem?_eq_some_iff.1 h).1
theorem Arr3.new1 (w : World) (o : Obj) (a b c : Nat) : Arr3 ((w.alloc o).alloc (.cells #[.int .u8 (a : Int), .int .u8 (b : Int), .int .u8 (c : Int)] 36)) (w.heap.size + 1) a b c := heap_alloc2_new _ _ _
theorem Arr3.c0 {w : World} {g a b c : Nat} (h : Arr3 w g a b c) : w.cell? ⟨g, 0, none⟩ = some (.int .u8 (a : Int)) := by rw [cell_of_row _ _ _ _ _ _ h]; rfl
theorem Arr3.c1 {w : World} {g a b c : Nat} (h : Arr3 w g a b c) : w.cell? ⟨g, 1, none⟩ = some (.int .u8 (b : Int)) := by rw [cell_of_row _ _ _ _ _ _ h]; rfl
theorem Arr3.c2 {w : World} {g a b c : Nat} (h : Arr3 w g a b c) : w.cell? ⟨g, 2, none⟩ = some (.int .u8 (c : Int)) := by rw [cell_of_row _ _ _ _ _ _ h]; rfl
end Go.Proofs.YtaphdehhnnglgaaDoor
