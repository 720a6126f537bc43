/- Package bus, over the landed code: where a wire's bits lie; New, Flip, Len, Copy, Step. -/
import Derived.Test.YthblfldnlfopcaaJr
import Derived.Deep.WholeRow
namespace Go.Proofs.Ythblfldnlfopcaa
open Go.RowKit
set_option linter.unusedVariables false
/-- The wire's cells: 4000 bytes, the count, whether a turned bit is waited for. -/
def bcs (rg : List UInt8) (n : Nat) (fl : Bool) : Array Value := (Bm.cellsOf rg ++ [Value.int .i64 (n : Int), Value.bool fl]).toArray
def BRow (w : World) (p : Nat) (rg : List UInt8) (n : Nat) (fl : Bool) : Prop := w.heap[p]? = some (.cells (bcs rg n fl) 38 (0, 0)) ∧ rg.length = 4000
theorem bcs_size {rg : List UInt8} (n : Nat) (fl : Bool) (h : rg.length = 4000) : (bcs rg n fl).size = 4002 := by simp [bcs, Bm.cellsOf, h]
theorem bcs_n {rg : List UInt8} (n : Nat) (fl : Bool) (h : rg.length = 4000) : (bcs rg n fl)[4000]? = some (.int .i64 n) := by simp [bcs, Bm.cellsOf, h]
theorem bcs_fl {rg : List UInt8} (n : Nat) (fl : Bool) (h : rg.length = 4000) : (bcs rg n fl)[4001]? = some (.bool fl) := by simp [bcs, Bm.cellsOf, h]
theorem bcs_set_n {rg : List UInt8} (n : Nat) (fl : Bool) (m : Nat) (h : rg.length = 4000) : (bcs rg n fl).setIfInBounds 4000 (.int .i64 (m : Int)) = bcs rg m fl := by
  simp [bcs, Bm.cellsOf, h]
theorem bcs_set_fl {rg : List UInt8} (n : Nat) (fl g : Bool) (h : rg.length = 4000) : (bcs rg n fl).setIfInBounds 4001 (.bool g) = bcs rg n g := by
  simp [bcs, Bm.cellsOf, h]
theorem bcs_set {rg : List UInt8} (n : Nat) (fl : Bool) (k : Nat) (c : UInt8) (h : rg.length = 4000) (hk : k < 4000) : (bcs rg n fl).setIfInBounds k (.int .u8 (c.toNat : Int)) = bcs (rg.set k c) n fl := by
  simp [bcs, Bm.cellsOf, h, hk, List.map_set]
theorem BRow.lt {w : World} {p : Nat} {rg : List UInt8} {n : Nat} {fl : Bool} (h : BRow w p rg n fl) : p < w.heap.size := (Array.getElem?_eq_some_iff.1 h.1).1
theorem BRow.cn {w : World} {p : Nat} {rg : List UInt8} {n : Nat} {fl : Bool} (h : BRow w p rg n fl) : w.cell? ⟨p, 4000, none⟩ = some (.int .i64 n) := by rw [cell_of_row _ _ _ _ _ _ h.1]; exact bcs_n n fl h.2
theorem BRow.cf {w : World} {p : Nat} {rg : List UInt8} {n : Nat} {fl : Bool} (h : BRow w p rg n fl) : w.cell? ⟨p, 4001, none⟩ = some (.bool fl) := by rw [cell_of_row _ _ _ _ _ _ h.1]; exact bcs_fl n fl h.2
theorem BRow.ck {w : World} {p : Nat} {rg : List UInt8} {n : Nat} {fl : Bool} (h : BRow w p rg n fl) (k : Nat) (hk : k < 4000) : ∃ c, w.cell? ⟨p, k, none⟩ = some (.int .u8 c) := by
  have hk' : k < rg.length := by rw [h.2]; exact hk
  refine ⟨(rg[k].toNat : Int), ?_⟩
  rw [cell_of_row _ _ _ _ _ _ h.1]; simp [bcs, Bm.cellsOf, List.getElem?_append, hk']
theorem BRow.fz {w : World} {p : Nat} {rg : List UInt8} {n : Nat} {fl : Bool} (h : BRow w p rg n fl) (k : Nat) : w.frozen? ⟨p, k, none⟩ = false := frozen_of_row _ _ k _ _ h.1
theorem BRow.setN {w : World} {p : Nat} {rg : List UInt8} {n : Nat} {fl : Bool} (h : BRow w p rg n fl) (m : Nat) : BRow (w.setCell ⟨p, 4000, none⟩ (.int .i64 (m : Int))) p rg m fl := by
  refine ⟨?_, h.2⟩; rw [← bcs_set_n n fl m h.2]; exact heap_setCell_same _ _ _ _ _ _ h.1
theorem BRow.setF {w : World} {p : Nat} {rg : List UInt8} {n : Nat} {fl : Bool} (h : BRow w p rg n fl) (g : Bool) : BRow (w.setCell ⟨p, 4001, none⟩ (.bool g)) p rg n g := by
  refine ⟨?_, h.2⟩; rw [← bcs_set_fl n fl g h.2]; exact heap_setCell_same _ _ _ _ _ _ h.1
theorem BRow.setK {w : World} {p : Nat} {rg : List UInt8} {n : Nat} {fl : Bool} (h : BRow w p rg n fl) (k : Nat) (hk : k < 4000) (c : UInt8) : BRow (w.setCell ⟨p, k, none⟩ (.int .u8 (c.toNat : Int))) p (rg.set k c) n fl := by
  refine ⟨?_, by simpa using h.2⟩; rw [← bcs_set n fl k c h.2 hk]; exact heap_setCell_same _ _ _ _ _ _ h.1
set_option maxRecDepth 100000 in
theorem bzero : (Try.prog.info? 38).map (fun i => (i.zero, i.size)) = some (some (.agg (bcs (List.replicate 4000 0) 0 false)), 4002) := by kernel_rfl
theorem brep : (List.replicate 4000 (0 : UInt8)).length = 4000 := List.length_replicate
set_option maxHeartbeats 1000000 in
set_option maxRecDepth 100000 in
theorem bnew_any (w : World) :
    Calls Try.prog 8 #[] w fun e w' => e = .returned (bptr w.heap.size) ∧ BRow w' w.heap.size (List.replicate 4000 0) 0 false ∧ Below w.heap.size w w' := by
  have hz := (zero_of_info bzero).1
  have hl := brep
  generalize List.replicate 4000 (0 : UInt8) = rg at hz hl ⊢
  generalize hc : bcs rg 0 false = cs at hz
  go_enter Try.func8, Try.ntmps8
  go_wp2
  go_ret
  exact ⟨rfl, ⟨hc ▸ heap_alloc_last w _, hl⟩, (Below.refl _ _).alloc (by omega) _⟩
set_option maxHeartbeats 1000000 in
set_option maxRecDepth 100000 in
theorem bflip_any (w : World) (p : Nat) (rg : List UInt8) (n : Nat) (fl : Bool) (h : BRow w p rg n fl) :
    Calls Try.prog 9 #[bptr p] w fun e w' => e = .returned (.tuple #[]) ∧ w' = w.setCell ⟨p, 4001, none⟩ (.bool true) := by
  have c1 := h.cf
  have f1 := h.fz 4001
  clear h
  go_enter Try.func9, Try.ntmps9
  go_wp2
  go_end0
  exact ⟨rfl, rfl⟩
set_option maxHeartbeats 1000000 in
set_option maxRecDepth 100000 in
theorem blen_any (w : World) (p : Nat) (rg : List UInt8) (n : Nat) (fl : Bool) (h : BRow w p rg n fl) :
    Calls Try.prog 12 #[bptr p] w fun e w' => e = .returned (.int .i64 n) ∧ w' = w := by
  have c1 := h.cn
  clear h
  go_enter Try.func12, Try.ntmps12
  go_wp2
  go_ret
  exact ⟨rfl, rfl⟩
end Go.Proofs.Ythblfldnlfopcaa
