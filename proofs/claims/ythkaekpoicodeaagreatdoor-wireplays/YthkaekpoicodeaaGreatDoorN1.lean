/- The document's own node on the wire: its cells, what its small methods do, over its text. -/
import Derived.Test.YthkaekpoicodeaaGreatDoorM4
import Derived.Test.YthkaekpoicodeaaGreatDoorU9
import Derived.Test.YthkaekpoicodeaaGreatDoorK1
namespace Go.Proofs.YthkaekpoicodeaaGreatDoor
open Go.RowKit
set_option linter.unusedVariables false
def phI : Mm.Ph → Int
  | .idle => 0 | .inFr => 1 | .flag => 2 | .reco => 3 | .pause => 4 | .off => 5
/-- The node's cells. -/
def mcs (ph lf : Int) (fi sd hh : Bool) (x : Bool) (n : Int) (r : Bool) (d : ByteArray) (out : ByteArray) (at_ ar : Int) (q : Nat) (tk : Bool) (s g : Int) : Array Value :=
  #[.int .i64 ph, .int .i64 lf, .bool fi, .bool sd, .bool hh, .bool x, .int .u32 n, .bool r, .string d, .string out, .int .i64 at_, .int .i64 ar, .pointer (some ⟨q, 0, none⟩), .bool tk, .int .i64 s, .int .i64 g]
def MRow (w : World) (p : Nat) (cs : Array Value) : Prop := w.heap[p]? = some (.cells cs 53 (0, 0))
theorem MRow.lt {w : World} {p : Nat} {cs : Array Value} (h : MRow w p cs) : p < w.heap.size := (Array.getElem?_eq_some_iff.1 h).1
theorem MRow.c {w : World} {p : Nat} {cs : Array Value} (h : MRow w p cs) (k : Nat) (v : Value) (hv : cs[k]? = some v) : w.cell? ⟨p, k, none⟩ = some v := by rw [cell_of_row _ _ _ _ _ _ h]; exact hv
theorem MRow.f {w : World} {p : Nat} {cs : Array Value} (h : MRow w p cs) (k : Nat) : w.frozen? ⟨p, k, none⟩ = false := frozen_of_row _ _ k _ _ h
theorem MRow.set {w : World} {p : Nat} {cs : Array Value} (h : MRow w p cs) (k : Nat) (v : Value) : MRow (w.setCell ⟨p, k, none⟩ v) p (cs.setIfInBounds k v) := heap_setCell_same _ _ _ _ _ _ h
theorem MRow.on {w w' : World} {p : Nat} {cs : Array Value} (h : MRow w p cs) (hb : Below w.heap.size w w') : MRow w' p cs := (hb.block p h.lt).trans h
theorem MRow.but {w w' : World} {p q : Nat} {cs : Array Value} (h : MRow w p cs) (hb : But q w w') (hn : p ≠ q) : MRow w' p cs := (hb.2.2.2.2 p h.lt hn).trans h
theorem But.set2 {p k j : Nat} {v u : Value} {w w' : World} (h : But p w w') : But p w ((w'.setCell ⟨p, k, none⟩ v).setCell ⟨p, j, none⟩ u) := (h.trans (But.set p k v w')).trans (But.set p j u _)
theorem But.set1 {p k : Nat} {v : Value} {w w' : World} (h : But p w w') : But p w (w'.setCell ⟨p, k, none⟩ v) := h.trans (But.set p k v w')
theorem But.join {p : Nat} {a b c : World} (h : But p a b) (k : Below b.heap.size b c) : But p a c := h.trans (But.of_below k)
set_option maxRecDepth 100000 in
set_option maxHeartbeats 1000000 in
theorem rpause_any (w : World) (p : Nat) (ph lf : Int) (fi sd hh x : Bool) (n : Int) (r : Bool) (d out : ByteArray) (at_ ar : Int) (q : Nat) (tk : Bool) (s g : Int) (h : MRow w p (mcs ph lf fi sd hh x n r d out at_ ar q tk s g)) :
    Calls Tryz.prog 74 #[bptr p] w fun e w' => e = .returned (.tuple #[]) ∧ MRow w' p (mcs 4 3 fi sd hh x n r d out at_ ar q tk s g) ∧ But p w w' := by
  have HM : Hid (MRow w p (mcs ph lf fi sd hh x n r d out at_ ar q tk s g)) := h
  have c0 : w.cell? ⟨p, 0, none⟩ = some (.int .i64 ph) := h.c 0 _ rfl
  have f0 : w.frozen? ⟨p, 0, none⟩ = false := h.f 0
  have c1 : w.cell? ⟨p, 1, none⟩ = some (.int .i64 lf) := h.c 1 _ rfl
  have f1 : w.frozen? ⟨p, 1, none⟩ = false := h.f 1
  clear h
  go_enter Tryz.func74, Tryz.ntmps74
  go_wp2
  go_end0
  exact ⟨rfl, (HM.out.set 0 _).set 1 _, (But.refl p w).set2⟩
set_option maxRecDepth 100000 in
set_option maxHeartbeats 1000000 in
theorem rbusy_any (w : World) (p : Nat) (ph lf : Int) (fi sd hh x : Bool) (n : Int) (r : Bool) (d out : ByteArray) (at_ ar : Int) (q : Nat) (tk : Bool) (s g : Int) (h : MRow w p (mcs ph lf fi sd hh x n r d out at_ ar q tk s g)) :
    Calls Tryz.prog 23 #[bptr p] w fun e w' => e = .returned (.bool (hh || sd)) ∧ Below w.heap.size w w' := by
  have c3 : w.cell? ⟨p, 3, none⟩ = some (.bool sd) := h.c 3 _ rfl
  have f3 : w.frozen? ⟨p, 3, none⟩ = false := h.f 3
  have c4 : w.cell? ⟨p, 4, none⟩ = some (.bool hh) := h.c 4 _ rfl
  have f4 : w.frozen? ⟨p, 4, none⟩ = false := h.f 4
  clear h
  go_enter Tryz.func23, Tryz.ntmps23
  cases hh
  all_goals
    go_wp2
    go_ret
    exact ⟨rfl, Below.refl _ _⟩
set_option maxRecDepth 100000 in
set_option maxHeartbeats 1000000 in
theorem rrecover_any (w : World) (p : Nat) (ph : Int) (lf : Nat) (hl : 1 ≤ lf ∧ lf ≤ 7) (fi sd hh x : Bool) (n : Int) (r : Bool) (d out : ByteArray) (at_ ar : Int) (q : Nat) (tk : Bool) (s g : Int) (c : Bool) (h : MRow w p (mcs ph lf fi sd hh x n r d out at_ ar q tk s g)) :
    Calls Tryz.prog 48 #[bptr p, .bool c] w fun e w' => e = .returned (.tuple #[]) ∧ But p w w' ∧
      MRow w' p (if fi then mcs ph lf (!c) sd hh x n r d out at_ ar q tk s g else if c = false then mcs ph 7 fi sd hh x n r d out at_ ar q tk s g else if lf = 1 then mcs 4 3 fi sd hh x n r d out at_ ar q tk s g else mcs ph ((lf : Int) - 1) fi sd hh x n r d out at_ ar q tk s g) := by
  have HM : Hid (MRow w p (mcs ph lf fi sd hh x n r d out at_ ar q tk s g)) := h
  have c1 : w.cell? ⟨p, 1, none⟩ = some (.int .i64 lf) := h.c 1 _ rfl
  have f1 : w.frozen? ⟨p, 1, none⟩ = false := h.f 1
  have c2 : w.cell? ⟨p, 2, none⟩ = some (.bool fi) := h.c 2 _ rfl
  have f2 : w.frozen? ⟨p, 2, none⟩ = false := h.f 2
  clear h
  cases fi
  · cases c
    · go_enter Tryz.func48, Tryz.ntmps48
      go_wp2
      go_end0
      exact ⟨rfl, (But.refl p w).set1, HM.out.set 1 _⟩
    · by_cases l1 : lf = 1
      · subst l1
        have HP := rpause_any (w.setCell ⟨p, 1, none⟩ (.int .i64 0)) p ph 0 false sd hh x n r d out at_ ar q tk s g (HM.out.set 1 _)
        go_enter Tryz.func48, Tryz.ntmps48
        go_wp2_with fail
        refine HP.mono ?_
        rintro e w1 ⟨rfl, h1, h2⟩
        go_wp2
        go_end0
        exact ⟨rfl, ((But.refl p w).set1).trans h2, h1⟩
      · have hn1 : ((lf : Int) - 1 == 0) = false := by rw [beq_eq_false_iff_ne]; omega
        rw [if_neg (by decide), if_neg (by decide), if_neg l1]
        go_enter Tryz.func48, Tryz.ntmps48
        go_wp2
        go_end0
        exact ⟨rfl, (But.refl p w).set1, HM.out.set 1 _⟩
  · go_enter Tryz.func48, Tryz.ntmps48
    go_wp2
    go_end0
    exact ⟨rfl, (But.refl p w).set1, HM.out.set 2 _⟩
end Go.Proofs.YthkaekpoicodeaaGreatDoor
