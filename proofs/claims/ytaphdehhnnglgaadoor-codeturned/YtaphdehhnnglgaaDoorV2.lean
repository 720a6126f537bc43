/- The document's own reader of frames: what Next answers, over its text. -/
import Derived.Test.YtaphdehhnnglgaaDoorV1
import Derived.Test.YtaphdehhnnglgaaDoorMe
import Derived.Test.YtaphdehhnnglgaaDoorR6
import Derived.Test.YtaphdehhnnglgaaDoorT7
namespace Go.Proofs.YtaphdehhnnglgaaDoor
open Go.RowKit
def wantI : Option (Cm.Fr × Nat) → Int
  | some (_, n) => n
  | none => -1
def tailI : Option Nat → Int
  | some t => t
  | none => -1
def frI : Option (Cm.Fr × Nat) → Cm.Fr
  | some (f, _) => f
  | none => Cm.noF
/-- The cells of a reader that holds s; 'S': all bits, 'R': those up to the sum. -/
def rdc (S : ByteArray) (s : Cm.Rd) (R : List Bool) : Array Value := rcs S ⟨(Bm.row s.p).toArray⟩ ⟨(Bm.row R).toArray⟩ (wantI s.w) (tailI s.t) (frI s.w).1 (frI s.w).2.1 (frI s.w).2.2.1 ⟨(frI s.w).2.2.2.toArray⟩
theorem drew_row {w w1 : World} {g : Nat} {O : Obj} (h : w1 = w.drew) (k : w.heap[g]? = some O) : w1.heap[g]? = some O := by subst h; exact k
theorem drew_but {g : Nat} {w w1 : World} (h : w1 = w.drew) : But g w w1 := by subst h; exact ⟨rfl, rfl, rfl, Nat.le_refl _, fun _ _ _ => rfl⟩
theorem run_cat (a b : ByteArray) (h : a.size + b.size ≤ 1000000000) (W : World) : (Op.stringOp .add a b).run Tryd.prog W = .ok (.string (a ++ b)) W := by
  simp [go_sem]
  omega
theorem set0 {w : World} {g : Nat} {S P R : ByteArray} {want tail : Int} {x : Bool} {n : Nat} {r : Bool} {d : ByteArray} {T : TypeId} (h : w.heap[g]? = some (.cells (rcs S P R want tail x n r d) T (0, 0))) (v : ByteArray) : (w.setCell ⟨g, 0, none⟩ (.string v)).heap[g]? = some (.cells (rcs v P R want tail x n r d) T (0, 0)) := by
  rw [heap_setCell_same _ _ _ _ _ _ h]; rfl
theorem set1r {w : World} {g : Nat} {S P R : ByteArray} {want tail : Int} {x : Bool} {n : Nat} {r : Bool} {d : ByteArray} {T : TypeId} (h : w.heap[g]? = some (.cells (rcs S P R want tail x n r d) T (0, 0))) (v : ByteArray) : (w.setCell ⟨g, 1, none⟩ (.string v)).heap[g]? = some (.cells (rcs S v R want tail x n r d) T (0, 0)) := by
  rw [heap_setCell_same _ _ _ _ _ _ h]; rfl
theorem set2r {w : World} {g : Nat} {S P R : ByteArray} {want tail : Int} {x : Bool} {n : Nat} {r : Bool} {d : ByteArray} {T : TypeId} (h : w.heap[g]? = some (.cells (rcs S P R want tail x n r d) T (0, 0))) (v : ByteArray) : (w.setCell ⟨g, 2, none⟩ (.string v)).heap[g]? = some (.cells (rcs S P v want tail x n r d) T (0, 0)) := by
  rw [heap_setCell_same _ _ _ _ _ _ h]; rfl
theorem sign_mk (c : UInt8) : ByteArray.mk #[Bm.sign ((c.toNat : Int) == 49)] = ByteArray.mk (Bm.row [Bm.isOne c]).toArray := by
  rw [Bm.isOne_dec]; rfl
set_option maxRecDepth 100000 in
set_option maxHeartbeats 2000000 in
theorem next_behind (g : Nat) (S : ByteArray) (hS : S.size ≤ 1000000) (q : Nat × Bool) (p : List Bool) (f : Cm.Fr) (nn t : Nat) (R : List Bool) (c : UInt8) (w : World) (ht : t < 10) (hl : p.length = nn + 15) (hs : p.length ≤ 1048576)
    (hrow : w.heap[g]? = some (.cells (rdc S ⟨q, p, some (f, nn), some t⟩ R) 58 (0, 0))) :
    Calls Tryd.prog 34 #[.pointer (some ⟨g, 0, none⟩), .int .u8 (c.toNat : Int)] w fun e w' => e = .returned (.int .i64 (behindCode (Cm.right p nn) t (Bm.isOne c))) ∧
      w'.heap[g]? = some (.cells (rdc (S ++ ByteArray.mk #[Bm.sign (Bm.isOne c)]) ⟨q, p, some (f, nn), some (t + 1)⟩ R) 58 (0, 0)) ∧ But g w w' := by
  have hc := Bm.isOne_dec c
  obtain ⟨x, n, r, d⟩ := f
  have hrow' : Hid (w.heap[g]? = some (.cells #[.string S, .string ⟨(Bm.row p).toArray⟩, .string ⟨(Bm.row R).toArray⟩, .int .i64 nn, .int .i64 t, .bool x, .int .u32 n, .bool r, .string ⟨d.toArray⟩] 58 (0, 0))) := hrow
  have HB : Hid (∀ w, w.heap[g]? = some (.cells (rcs (S ++ ByteArray.mk #[Bm.sign (Bm.isOne c)]) ⟨(Bm.row p).toArray⟩ ⟨(Bm.row R).toArray⟩ nn t x n r ⟨d.toArray⟩) 58 (0, 0)) → Calls Tryd.prog 53 #[.pointer (some ⟨g, 0, none⟩), .bool (Bm.isOne c)] w fun e w' => e = .returned (.int .i64 (behindCode (Cm.right p nn) t (Bm.isOne c))) ∧ w'.heap[g]? = some (.cells (rcs (S ++ ByteArray.mk #[Bm.sign (Bm.isOne c)]) ⟨(Bm.row p).toArray⟩ ⟨(Bm.row R).toArray⟩ nn (t + 1) x n r ⟨d.toArray⟩) 58 (0, 0)) ∧ But g w w') := fun w h => behind_any g _ _ p nn t ht _ x n r _ w h hl hs
  clear hrow
  go_enter Tryd.func34, Tryd.ntmps34
  go_wp2_with fail
  refine Lw.region_tail 11 (by kernel_rfl) (by kernel_rfl) ?_
  intro w1 hw1
  have HV1 : Hid (_) := drew_row hw1 hrow'.out
  have hB1 : Hid (But g w w1) := drew_but hw1
  clear hw1 hrow'
  have c0 : w1.cell? ⟨g, 0, none⟩ = some (.string S) := nine_cells HV1.out 0 _ rfl
  have c4 : w1.cell? ⟨g, 4, none⟩ = some (.int .i64 t) := nine_cells HV1.out 4 _ rfl
  have z0 : w1.frozen? ⟨g, 0, none⟩ = false := frozen_of_row _ _ _ _ _ HV1.out
  simp only [List.take_succ_cons, List.take_zero, List.drop_succ_cons, List.drop_zero]
  have hcat := fun W => run_cat S (ByteArray.mk #[Bm.sign ((c.toNat : Int) == 49)]) (by show S.size + 1 ≤ _; omega) W
  rw [hc] at hcat
  repeat (first | still_step | still_call (refBit_any _ _))
  refine wpStill_nil ?_
  have HV2 : Hid (_) := set0 HV1.out (S ++ ByteArray.mk #[Bm.sign (Bm.isOne c)])
  have hB2 : Hid (_) := But.trans hB1.out (But.set g 0 (.string (S ++ ByteArray.mk #[Bm.sign (Bm.isOne c)])) w1)
  clear hcat HV1 hB1
  go_wp2_with fail
  refine (HB.out _ HV2.out).mono ?_
  rintro e w3 ⟨rfl, HV3, hB3⟩
  have HV3' : Hid (_) := HV3
  have hB4 : Hid (_) := But.trans hB2.out hB3
  clear HV3 hB3 hB2 HV2
  go_wp2
  go_ret
  exact ⟨rfl, HV3'.out, hB4.out⟩
end Go.Proofs.YtaphdehhnnglgaaDoor
