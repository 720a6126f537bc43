/- Package mac, over the landed code: where a node's cells lie; its small methods. -/
import Derived.Test.YthkaekpoicodeaaGreatDoorUe
import Derived.Test.YthkaekpoicodeaaGreatDoorMk
import Derived.Test.YthkaekpoicodeaaGreatDoorUd
import Derived.Test.YthkaekpoicodeaaGreatDoorNe
namespace Go.Proofs.YthkaekpoicodeaaGreatDoor
open Go.RowKit
set_option linter.unusedVariables false
/-- The node's cells: what it is at and how many bits are left; the row; the frame; its bits on the wire; the counters. -/
def lcs (k l : Int) (row : ByteArray) (x : Bool) (n : Int) (r : Bool) (d wire : ByteArray) (s g : Int) : Array Value :=
  #[.int .i64 k, .int .i64 l, .string row, .bool x, .int .u32 n, .bool r, .string d, .string wire, .int .i64 s, .int .i64 g]
def LRow (w : World) (p : Nat) (cs : Array Value) : Prop := w.heap[p]? = some (.cells cs 79 (0, 0))
theorem LRow.lt {w : World} {p : Nat} {cs : Array Value} (h : LRow w p cs) : p < w.heap.size := (Array.getElem?_eq_some_iff.1 h).1
theorem LRow.c {w : World} {p : Nat} {cs : Array Value} (h : LRow w p cs) (k : Nat) (v : Value) (hv : cs[k]? = some v) : w.cell? ⟨p, k, none⟩ = some v := by rw [cell_of_row _ _ _ _ _ _ h]; exact hv
theorem LRow.f {w : World} {p : Nat} {cs : Array Value} (h : LRow w p cs) (k : Nat) : w.frozen? ⟨p, k, none⟩ = false := frozen_of_row _ _ k _ _ h
theorem LRow.set {w : World} {p : Nat} {cs : Array Value} (h : LRow w p cs) (k : Nat) (v : Value) : LRow (w.setCell ⟨p, k, none⟩ v) p (cs.setIfInBounds k v) := heap_setCell_same _ _ _ _ _ _ h
theorem LRow.on {w w' : World} {p : Nat} {cs : Array Value} (h : LRow w p cs) (hb : Below w.heap.size w w') : LRow w' p cs := (hb.block p h.lt).trans h
theorem LRow.alloc {w : World} {p : Nat} {cs : Array Value} (h : LRow w p cs) (o : Obj) : LRow (w.alloc o) p cs := h.on ((Below.refl _ _).alloc (Nat.le_refl _) _)
abbrev Kp (p : Nat) (w w' : World) : Prop := Kept (fun j => j = p) w w'
theorem Kp.set1 {p k : Nat} {v : Value} {w w' : World} (h : Kp p w w') : Kp p w (w'.setCell ⟨p, k, none⟩ v) := h.trans (Kept.set (F := fun j => j = p) w' ⟨p, k, none⟩ v rfl) (fun g hg => Or.inl hg)
theorem Kp.join {p : Nat} {a b c : World} (h : Kp p a b) (k : Below b.heap.size b c) : Kp p a c := h.trans (G := fun _ => False) (Kept.of_below k) (fun g hg => hg.elim)
theorem Kp.alloc {p : Nat} {a b : World} (h : Kp p a b) (o : Obj) : Kp p a (b.alloc o) := h.join ((Below.refl _ _).alloc (Nat.le_refl _) _)
theorem Kp.then {p : Nat} {a b c : World} (h : Kp p a b) (k : Kp p b c) : Kp p a c := h.trans k (fun g hg => Or.inl hg)
theorem Kp.of {p : Nat} {a b : World} (k : Below a.heap.size a b) : Kp p a b := Kept.of_below k
theorem txt_full (E : ByteArray) (h : 0 < E.size) : E.toList.isEmpty = false := by
  rw [ByteArray.toList_eq]
  cases h0 : E.data.toList with
  | nil =>
    have h2 : E.data.toList.length = 0 := by rw [h0]; rfl
    have h3 : E.data.toList.length = E.size := by simp
    omega
  | cons a l => rfl
abbrev phV (k l : Int) : Value := .agg #[.int .i64 k, .int .i64 l]
set_option maxRecDepth 100000 in
set_option maxHeartbeats 1000000 in
theorem less_more (k l : Int) (hl : 1 < l) (hm : l ≤ 1000) (w : World) : Calls Tryz.prog 63 #[phV k l] w fun e w' => e = .returned (phV k (l - 1)) ∧ Below w.heap.size w w' := by
  have h1 : decide (l > 1) = true := decide_eq_true hl
  go_enter Tryz.func63, Tryz.ntmps63
  go_wp2
  exact bodyPost_ret (v := phV k (l - 1)) (by simp [results, Tryz.results63, go_sem]) rfl ⟨rfl, (by first | exact ((Below.refl _ _).alloc (Nat.le_refl _) _).alloc (by simp) _ | exact ((((Below.refl _ _).alloc (Nat.le_refl _) _).alloc (by simp) _).setCell (Nat.le_succ _) _).setCell (Nat.le_succ _) _)⟩
set_option maxRecDepth 100000 in
set_option maxHeartbeats 1000000 in
theorem less_flag (w : World) : Calls Tryz.prog 63 #[phV 3 1] w fun e w' => e = .returned (phV 4 8) ∧ Below w.heap.size w w' := by
  go_enter Tryz.func63, Tryz.ntmps63
  go_wp2
  exact bodyPost_ret (v := phV 4 8) (by simp [results, Tryz.results63, go_sem]) rfl ⟨rfl, (by first | exact ((Below.refl _ _).alloc (Nat.le_refl _) _).alloc (by simp) _ | exact ((((Below.refl _ _).alloc (Nat.le_refl _) _).alloc (by simp) _).setCell (Nat.le_succ _) _).setCell (Nat.le_succ _) _)⟩
set_option maxRecDepth 100000 in
set_option maxHeartbeats 1000000 in
theorem less_end (k : Int) (hk : k = 1 ∨ k = 2 ∨ k = 4) (w : World) : Calls Tryz.prog 63 #[phV k 1] w fun e w' => e = .returned (phV 5 3) ∧ Below w.heap.size w w' := by
  rcases hk with rfl | rfl | rfl
  all_goals
    go_enter Tryz.func63, Tryz.ntmps63
    go_wp2
    exact bodyPost_ret (v := phV 5 3) (by simp [results, Tryz.results63, go_sem]) rfl ⟨rfl, (by first | exact ((Below.refl _ _).alloc (Nat.le_refl _) _).alloc (by simp) _ | exact ((((Below.refl _ _).alloc (Nat.le_refl _) _).alloc (by simp) _).setCell (Nat.le_succ _) _).setCell (Nat.le_succ _) _)⟩
set_option maxRecDepth 100000 in
set_option maxHeartbeats 1000000 in
theorem less_pause (w : World) : Calls Tryz.prog 63 #[phV 5 1] w fun e w' => e = .returned (phV 0 0) ∧ Below w.heap.size w w' := by
  go_enter Tryz.func63, Tryz.ntmps63
  go_wp2
  exact bodyPost_ret (v := phV 0 0) (by simp [results, Tryz.results63, go_sem]) rfl ⟨rfl, (by first | exact ((Below.refl _ _).alloc (Nat.le_refl _) _).alloc (by simp) _ | exact ((((Below.refl _ _).alloc (Nat.le_refl _) _).alloc (by simp) _).setCell (Nat.le_succ _) _).setCell (Nat.le_succ _) _)⟩
set_option maxRecDepth 100000 in
set_option maxHeartbeats 1000000 in
theorem lnew_any (w : World) : Calls Tryz.prog 20 #[] w fun e w' => e = .returned (bptr w.heap.size) ∧ LRow w' w.heap.size (lcs 5 3 ⟨#[]⟩ false 0 false ⟨#[]⟩ ⟨#[]⟩ 0 0) ∧ Below w.heap.size w w' := by
  go_enter Tryz.func20, Tryz.ntmps20
  go_wp2
  go_ret
  exact ⟨rfl, heap_alloc_new _ _, (Below.refl _ _).alloc (Nat.le_refl _) _⟩
set_option maxRecDepth 100000 in
set_option maxHeartbeats 1000000 in
theorem ldrop_any (w : World) (p : Nat) (k l : Int) (row : ByteArray) (x : Bool) (n : Int) (r : Bool) (d wire : ByteArray) (s g : Int) (h : LRow w p (lcs k l row x n r d wire s g)) :
    Calls Tryz.prog 60 #[bptr p] w fun e w' => e = .returned (.tuple #[]) ∧ LRow w' p (lcs k l row false 0 false ⟨#[]⟩ ⟨#[]⟩ s g) ∧ Kp p w w' := by
  have HM : Hid (LRow w p (lcs k l row x n r d wire s g)) := h
  have c3 : w.cell? ⟨p, 3, none⟩ = some (.bool x) := h.c 3 _ rfl
  have f3 : w.frozen? ⟨p, 3, none⟩ = false := h.f 3
  have c4 : w.cell? ⟨p, 4, none⟩ = some (.int .u32 n) := h.c 4 _ rfl
  have f4 : w.frozen? ⟨p, 4, none⟩ = false := h.f 4
  have c5 : w.cell? ⟨p, 5, none⟩ = some (.bool r) := h.c 5 _ rfl
  have f5 : w.frozen? ⟨p, 5, none⟩ = false := h.f 5
  have c6 : w.cell? ⟨p, 6, none⟩ = some (.string d) := h.c 6 _ rfl
  have f6 : w.frozen? ⟨p, 6, none⟩ = false := h.f 6
  have c7 : w.cell? ⟨p, 7, none⟩ = some (.string wire) := h.c 7 _ rfl
  have f7 : w.frozen? ⟨p, 7, none⟩ = false := h.f 7
  clear h
  go_enter Tryz.func60, Tryz.ntmps60
  go_wp2
  go_end0
  exact ⟨rfl, ((((HM.out.set 3 _).set 4 _).set 5 _).set 6 _).set 7 _, (Kp.set1 (Kp.set1 (Kp.set1 (Kp.set1 (Kp.set1 (Kept.refl _ w))))))⟩
set_option maxRecDepth 100000 in
set_option maxHeartbeats 1000000 in
theorem lbusy0 (w : World) (p : Nat) (k l : Int) (row : ByteArray) (x : Bool) (n : Int) (r : Bool) (d : ByteArray) (s g : Int) (h : LRow w p (lcs k l row x n r d ⟨#[]⟩ s g)) :
    Calls Tryz.prog 37 #[bptr p] w fun e w' => e = .returned (.bool false) ∧ Below w.heap.size w w' := by
  have c7 : w.cell? ⟨p, 7, none⟩ = some (.string ⟨#[]⟩) := h.c 7 _ rfl
  have f7 : w.frozen? ⟨p, 7, none⟩ = false := h.f 7
  clear h
  go_enter Tryz.func37, Tryz.ntmps37
  go_wp2
  go_ret
  exact ⟨rfl, Below.refl _ _⟩
set_option maxRecDepth 100000 in
set_option maxHeartbeats 1000000 in
theorem lbusy1 (w : World) (p : Nat) (k l : Int) (row : ByteArray) (x : Bool) (n : Int) (r : Bool) (d wire : ByteArray) (s g : Int) (hw : 0 < wire.size) (h : LRow w p (lcs k l row x n r d wire s g)) :
    Calls Tryz.prog 37 #[bptr p] w fun e w' => e = .returned (.bool true) ∧ Below w.heap.size w w' := by
  have c7 : w.cell? ⟨p, 7, none⟩ = some (.string wire) := h.c 7 _ rfl
  have f7 : w.frozen? ⟨p, 7, none⟩ = false := h.f 7
  clear h
  have hne : wire.toList.isEmpty = false := txt_full wire hw
  go_enter Tryz.func37, Tryz.ntmps37
  go_wp2
  go_ret
  exact ⟨rfl, Below.refl _ _⟩
set_option maxRecDepth 100000 in
set_option maxHeartbeats 1000000 in
theorem lcounts_any (w : World) (p : Nat) (k l : Int) (row : ByteArray) (x : Bool) (n : Int) (r : Bool) (d wire : ByteArray) (s g : Int) (h : LRow w p (lcs k l row x n r d wire s g)) :
    Calls Tryz.prog 15 #[bptr p] w fun e w' => e = .returned (.agg #[.int .i64 s, .int .i64 g]) ∧ Below w.heap.size w w' := by
  have a8 : ∀ o, (w.alloc o).cell? ⟨p, 8, none⟩ = some (.int .i64 s) := fun o => (h.alloc o).c 8 _ rfl
  have b8 : ∀ o, (w.alloc o).frozen? ⟨p, 8, none⟩ = false := fun o => (h.alloc o).f 8
  have a9 : ∀ o, (w.alloc o).cell? ⟨p, 9, none⟩ = some (.int .i64 g) := fun o => (h.alloc o).c 9 _ rfl
  have b9 : ∀ o, (w.alloc o).frozen? ⟨p, 9, none⟩ = false := fun o => (h.alloc o).f 9
  clear h
  go_enter Tryz.func15, Tryz.ntmps15
  go_wp2
  exact bodyPost_ret (v := .agg #[.int .i64 s, .int .i64 g]) (by simp [results, Tryz.results15, go_sem]) rfl ⟨rfl, (by first | exact (Below.refl _ _).alloc (Nat.le_refl _) _ | exact (((Below.refl _ _).alloc (Nat.le_refl _) _).setCell (Nat.le_refl _) _).setCell (Nat.le_refl _) _)⟩
set_option maxRecDepth 100000 in
set_option maxHeartbeats 1000000 in
theorem lnext_any (w : World) (p : Nat) (k l : Int) (row : ByteArray) (x : Bool) (n : Int) (r : Bool) (d : ByteArray) (s g : Int) (out : List Bool) (i : Nat) (hi : i < out.length) (ho : out.length ≤ 200) (hr : row.size = i) (h : LRow w p (lcs k l row x n r d ⟨(Bm.row out).toArray⟩ s g)) :
    Calls Tryz.prog 55 #[bptr p] w fun e w' => e = .returned (.int .u8 (if out.getD i true then 49 else 48)) ∧ Below w.heap.size w w' := by
  have HI : ∀ W, (Instr.index 9 (.string ⟨(Bm.row out).toArray⟩) (.int .i64 (i : Int))).run Tryz.prog W = .ok (.int .u8 (if out.getD i true then 49 else 48)) W := fun W => by
    rw [idx_row out i hi W]; cases out.getD i true <;> rfl
  have c2 : w.cell? ⟨p, 2, none⟩ = some (.string row) := h.c 2 _ rfl
  have f2 : w.frozen? ⟨p, 2, none⟩ = false := h.f 2
  have c7 : w.cell? ⟨p, 7, none⟩ = some (.string ⟨(Bm.row out).toArray⟩) := h.c 7 _ rfl
  have f7 : w.frozen? ⟨p, 7, none⟩ = false := h.f 7
  generalize (if out.getD i true then 49 else 48 : Int) = V at *
  generalize ByteArray.mk (Bm.row out).toArray = T at *
  have HC : Hid (∀ w', Below w.heap.size w w' → w'.cell? ⟨p, 2, none⟩ = some (.string row) ∧ w'.cell? ⟨p, 7, none⟩ = some (.string T)) := fun w' hb => ⟨(h.on hb).c 2 _ rfl, (h.on hb).c 7 _ rfl⟩
  clear h
  subst hr
  go_enter Tryz.func55, Tryz.ntmps55
  go_wp2_with fail
  refine Lw.wp_region_quiet_below (by kernel_rfl) (by kernel_rfl) ?_
  repeat (first
    | go_big_quiet_skip
    | (go_big_quiet_want; go_big_quiet_op; go_big_quiet_on)
    | (go_big_quiet_want; go_big_quiet_op; apply Exists.intro; refine ⟨fun _ hb' => ?_, ?_⟩; (first
      | exact Lw.val_rfl _
      | (simp [go_sem, (HC.out _ hb').1]; rfl)
      | (simp [go_sem, (HC.out _ hb').2]; rfl)
      | (simp [go_sem, HI]; rfl)); go_big_quiet_on))
  refine wpQuiet_nil ?_
  intro w2 hb2
  go_wp2
  go_ret
  exact ⟨rfl, hb2⟩
end Go.Proofs.YthkaekpoicodeaaGreatDoor
