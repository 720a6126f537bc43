/- Package level's table of duties, as the rows list it: what its cells hold, in this world and in every one behind it. -/
import Derived.Test.YtfempghbkchepaaDoorCards
import Derived.Test.YtfempghbkchepaaDoorTie
import Derived.Test.YtfempghbkchepaaDoorU2
import Derived.ProofKit
import Derived.OpenShut
import Derived.ShutString
import Derived.Deep.DeepHandedRow
import Derived.Lib.LaidTab
import Derived.Lib.SmallJoins
namespace Go.Proofs.YtfempghbkchepaaDoor
open Go.ChangeShapes Go.WideShapes Go.ChangeAt Go.RowKit
def duties : List (Bool × Bool) := [(true, true), (true, true), (false, true), (false, false)]
/-- The table's cells hold its duties. -/
def LTab (w : World) : Prop := 0 < w.heap.size ∧ ∀ (k : Nat) (z : Bool × Bool), duties[k]? = some z → w.cell? ⟨0, 2 * k, none⟩ = some (.bool z.1) ∧ w.cell? ⟨0, 2 * k + 1, none⟩ = some (.bool z.2)
theorem LTab.below {w w' : World} (h : LTab w) (hb : Below w.heap.size w w') : LTab w' :=
  ⟨Nat.lt_of_lt_of_le h.1 hb.size, fun k z hz => ⟨(hb.cell (p := ⟨0, 2 * k, none⟩) h.1).trans (h.2 k z hz).1, (hb.cell (p := ⟨0, 2 * k + 1, none⟩) h.1).trans (h.2 k z hz).2⟩⟩
theorem LTab.alloc {w : World} (h : LTab w) (o : Obj) : LTab (w.alloc o) := h.below ((Below.refl _ _).alloc (Nat.le_refl _) _)
theorem gLev : Tryd.prog.globalNamed "ostinato/level.left" = some 0 := by kernel_rfl
theorem gLevType : (Tryd.prog.globals[0]?).map (·.type) = some 51 := by kernel_rfl
theorem one_bool {enc : TypeId × Value → Unit} {w : World} {base : Nat} {sp : Nat → Bool} {held : Bool} {fuel : Nat} {cs : List Value} {a : Bool} {p : List MemPlace} (o : Nat)
    (h : DataW.trod enc Tryd.prog w base sp held fuel 4 ((cs.drop o).take (Tryd.prog.cellsOf 4)) = some (.lit (.bool a), p)) : cs[o]? = some (.bool a) := by
  rw [show Tryd.prog.cellsOf 4 = 1 from by kernel_rfl] at h
  obtain ⟨k, e1, e2⟩ := DataW.trod_bool Tryd.underlying4 h
  have hk : k = a := by
    have := congrArg Prod.fst e2
    injection this with this
    injection this with this
    exact this.symm
  subst hk
  have := congrArg (·[0]?) e1
  simpa [List.getElem?_take, List.getElem?_drop] using this
theorem cells_duties {enc : TypeId × Value → Unit} {w : World} {base : Nat} {sp : Nat → Bool} {held : Bool} {fuel : Nat} {cs : List Value} {a b : Bool} {p : List MemPlace}
    (h : DataW.trod enc Tryd.prog w base sp held fuel 47 cs = some (.agg [.lit (.bool a), .lit (.bool b)], p)) : cs[0]? = some (.bool a) ∧ cs[1]? = some (.bool b) := by
  obtain ⟨y0, y1, n, hx, _, h0, h1⟩ := trod_struct2 Tryd.underlying47 h
  have e := congrArg Prod.fst hx
  injection e with e
  obtain ⟨d0, q0⟩ := y0
  obtain ⟨d1, q1⟩ := y1
  simp only [List.cons.injEq, and_true] at e
  obtain ⟨rfl, rfl⟩ := e
  exact ⟨one_bool 0 h0, one_bool 1 h1⟩
set_option maxRecDepth 100000 in
theorem lev_of_laid1 {W : World} (h : laidMet Tryd.prog [("ostinato/level.left", Rows.laid_ostinato_level_left)] W) : LTab W := by
  obtain ⟨ps, ⟨g, t, cs, fuel, p, q, hg, ht, hv, hd, _, _⟩, _, _⟩ := h
  obtain rfl := Option.some.inj (gLev.symm.trans hg)
  obtain rfl := Option.some.inj (gLevType.symm.trans ht)
  obtain ⟨xs, m, rfl, hx, hlen, hn, hel⟩ := DataW.trod_array Tryd.underlying51 hd
  have hc : Tryd.prog.cellsOf 47 = 2 := by kernel_rfl
  have hd2 := congrArg Prod.fst hx
  have hd3 : xs.map (·.1) = duties.map fun z => .agg [.lit (.bool z.1), .lit (.bool z.2)] := by
    injection hd2 with hd2
    exact hd2.symm
  refine ⟨?_, fun k z hz => ?_⟩
  · have := hv
    simp only [World.var?, gLev, Option.bind_some] at this
    cases e : W.heap[0]? with
    | none => rw [e] at this; cases this
    | some o => exact (Array.getElem?_eq_some_iff.1 e).1
  · have hk : k < 4 := (List.getElem?_eq_some_iff.1 hz).1
    have hxk := hel k hk
    have e1 : (xs.map (·.1))[k]? = some (.agg [.lit (.bool z.1), .lit (.bool z.2)]) := by rw [hd3, List.getElem?_map, hz]; rfl
    rw [List.getElem?_map] at e1
    cases hy : xs[k]? with
    | none => rw [hy] at e1; cases e1
    | some y =>
      rw [hy] at e1 hxk
      obtain ⟨d, q⟩ := y
      have e2 : d = .agg [.lit (.bool z.1), .lit (.bool z.2)] := Option.some.inj e1
      subst e2
      obtain ⟨c0, c1⟩ := cells_duties hxk
      rw [hc] at c0 c1
      have f := World.var?_cell hg hv
      refine ⟨?_, ?_⟩
      · rw [f]
        rw [List.getElem?_take_of_lt (by decide), List.getElem?_drop] at c0
        rw [← Array.getElem?_toList, show 2 * k = k * 2 + 0 from by omega]
        exact c0
      · rw [f]
        rw [List.getElem?_take_of_lt (by decide), List.getElem?_drop] at c1
        rw [← Array.getElem?_toList, show 2 * k + 1 = k * 2 + 1 from by omega]
        exact c1
theorem lev_of_laid {W : World} (h : laidMetH Tryd.prog [("ostinato/level.left", Rows.laid_ostinato_level_left)] W) : LTab W := lev_of_laid1 h
/-- A world that holds the table. -/
noncomputable def levWorld (os : Os) : World :=
  { World.holding Tryd.prog os ⟨#[], #[], []⟩ with heap := (World.holding Tryd.prog os ⟨#[], #[], []⟩).heap.modify 0 fun
      | .cells _ t frozen => .cells (duties.flatMap fun z => [Value.bool z.1, Value.bool z.2]).toArray t frozen
      | o => o }
end Go.Proofs.YtfempghbkchepaaDoor
