/- The table of widths as the rows list it: what its cells hold, in this world and in every one behind it. -/
import Derived.Test.YtnbfnipdiffphaaDoorCards
import Derived.Test.YtnbfnipdiffphaaDoorTie
import Derived.Test.YtnbfnipdiffphaaDoorU2
import Derived.ProofKit
import Derived.OpenShut
import Derived.ShutString
import Derived.Deep.DeepHandedRow
import Derived.Lib.LaidTab
import Derived.Lib.SmallJoins
namespace Go.Proofs.YtnbfnipdiffphaaDoor
open Go.ChangeShapes Go.WideShapes Go.ChangeAt Go.RowKit
open Go.ChangeMaps (open_string shut_string)
def widthsZ : List (Int × Int) := [(1, 1), (11, 11), (1, 1), (1, 1), (0, 18), (0, 1), (1, 2), (4, 4)]
/-- The table's cells hold its numbers. -/
def Tab (w : World) : Prop := 0 < w.heap.size ∧ ∀ (k : Nat) (z : Int × Int), widthsZ[k]? = some z → w.cell? ⟨0, 2 * k, none⟩ = some (.int .i64 z.1) ∧ w.cell? ⟨0, 2 * k + 1, none⟩ = some (.int .i64 z.2)
theorem Tab.below {w w' : World} (h : Tab w) (hb : Below w.heap.size w w') : Tab w' :=
  ⟨Nat.lt_of_lt_of_le h.1 hb.size, fun k z hz => ⟨(hb.cell (p := ⟨0, 2 * k, none⟩) h.1).trans (h.2 k z hz).1, (hb.cell (p := ⟨0, 2 * k + 1, none⟩) h.1).trans (h.2 k z hz).2⟩⟩
theorem Tab.belowB {B : Nat} {w w' : World} (h : Tab w) (hB : B = w.heap.size) (hb : Below B w w') : Tab w' := by subst hB; exact h.below hb
theorem Tab.alloc {w : World} (h : Tab w) (o : Obj) : Tab (w.alloc o) := h.below ((Below.refl _ _).alloc (Nat.le_refl _) _)
theorem gTab : Tryd.prog.globalNamed "ostinato/frame.widths" = some 0 := by kernel_rfl
theorem gTabType : (Tryd.prog.globals[0]?).map (·.type) = some 101 := by kernel_rfl
theorem one_int {enc : TypeId × Value → Unit} {w : World} {base : Nat} {sp : Nat → Bool} {held : Bool} {fuel : Nat} {cs : List Value} {a : Int} {p : List MemPlace} (o : Nat)
    (h : DataW.trod enc Tryd.prog w base sp held fuel 3 ((cs.drop o).take (Tryd.prog.cellsOf 3)) = some (.lit (.int .i64 a), p)) : cs[o]? = some (.int .i64 a) := by
  rw [show Tryd.prog.cellsOf 3 = 1 from by kernel_rfl] at h
  obtain ⟨k, e1, e2, _⟩ := DataW.trod_int Tryd.underlying3 h
  have hk : k = a := by
    have := congrArg Prod.fst e2
    injection this with this
    injection this with _ this
    exact this.symm
  subst hk
  have := congrArg (·[0]?) e1
  simpa [List.getElem?_take, List.getElem?_drop] using this
theorem cells_pair {enc : TypeId × Value → Unit} {w : World} {base : Nat} {sp : Nat → Bool} {held : Bool} {fuel : Nat} {cs : List Value} {a b : Int} {p : List MemPlace}
    (h : DataW.trod enc Tryd.prog w base sp held fuel 100 cs = some (.agg [.lit (.int .i64 a), .lit (.int .i64 b)], p)) : cs[0]? = some (.int .i64 a) ∧ cs[1]? = some (.int .i64 b) := by
  obtain ⟨y0, y1, n, hx, _, h0, h1⟩ := trod_struct2 Tryd.underlying100 h
  have e := congrArg Prod.fst hx
  injection e with e
  obtain ⟨d0, q0⟩ := y0
  obtain ⟨d1, q1⟩ := y1
  simp only [List.cons.injEq, and_true] at e
  obtain ⟨rfl, rfl⟩ := e
  exact ⟨one_int 0 h0, one_int 1 h1⟩
set_option maxRecDepth 100000 in
theorem tab_of_laid {W : World} (h : laidMetH Tryd.prog [("ostinato/frame.widths", Rows.laid_ostinato_frame_widths)] W) : Tab W := by
  have h : laidMet Tryd.prog [("ostinato/frame.widths", Rows.laid_ostinato_frame_widths)] W := h
  obtain ⟨ps, ⟨g, t, cs, fuel, p, q, hg, ht, hv, hd, _, _⟩, _, _⟩ := h
  obtain rfl := Option.some.inj (gTab.symm.trans hg)
  obtain rfl := Option.some.inj (gTabType.symm.trans ht)
  obtain ⟨xs, m, rfl, hx, hlen, hn, hel⟩ := DataW.trod_array Tryd.underlying101 hd
  have hc : Tryd.prog.cellsOf 100 = 2 := by kernel_rfl
  have hd2 := congrArg Prod.fst hx
  have hd3 : xs.map (·.1) = widthsZ.map fun z => .agg [.lit (.int .i64 z.1), .lit (.int .i64 z.2)] := by
    injection hd2 with hd2
    exact hd2.symm
  refine ⟨?_, fun k z hz => ?_⟩
  · have := hv
    simp only [World.var?, gTab, Option.bind_some] at this
    cases e : W.heap[0]? with
    | none => rw [e] at this; cases this
    | some o => exact (Array.getElem?_eq_some_iff.1 e).1
  · have hk : k < 8 := (List.getElem?_eq_some_iff.1 hz).1
    have hxk := hel k hk
    have e1 : (xs.map (·.1))[k]? = some (.agg [.lit (.int .i64 z.1), .lit (.int .i64 z.2)]) := by rw [hd3, List.getElem?_map, hz]; rfl
    rw [List.getElem?_map] at e1
    cases hy : xs[k]? with
    | none => rw [hy] at e1; cases e1
    | some y =>
      rw [hy] at e1 hxk
      obtain ⟨d, q⟩ := y
      have e2 : d = .agg [.lit (.int .i64 z.1), .lit (.int .i64 z.2)] := Option.some.inj e1
      subst e2
      obtain ⟨c0, c1⟩ := cells_pair hxk
      rw [hc] at c0 c1
      have f := World.var?_cell hg hv
      refine ⟨?_, ?_⟩
      · rw [f]
        rw [List.getElem?_take_of_lt (by decide), List.getElem?_drop] at c0
        rw [← Array.getElem?_toList, show 2 * k = k * 2 + 0 from by omega]
        exact c0
      · rw [f]
        rw [List.getElem?_take_of_lt (by decide), List.getElem?_drop] at c1
        rw [← Array.getElem?_toList, show 2 * k + 1 = k * 2 + 1 from by omega]
        exact c1
/-- A world that holds the table. -/
noncomputable def tabWorld (os : Os) : World :=
  { World.holding Tryd.prog os ⟨#[], #[], []⟩ with heap := (World.holding Tryd.prog os ⟨#[], #[], []⟩).heap.modify 0 fun
      | .cells _ t frozen => .cells (widthsZ.flatMap fun z => [Value.int .i64 z.1, Value.int .i64 z.2]).toArray t frozen
      | o => o }
theorem shut_frame {H : Type} {enc : TypeId × Value → H} {w : World} {base : Nat} {sp : Nat → Bool} {held : Bool} {x : Bool} {n : Int} {r : Bool} {d : ByteArray} (hn : (Lit.int .u32 n).wf = true) (hd : d.size ≤ maxLen) :
    DataW.Trod enc Tryd.prog w base sp held 72 (.agg #[.bool x, .int .u32 n, .bool r, .string d]) (.agg [.lit (.bool x), .lit (.int .u32 n), .lit (.bool r), .lit (.string d.data.toList)]) ([] ++ ([] ++ ([] ++ []))) :=
  Joins.shut_agg4 (y0 := (.lit (.bool x), [])) (y1 := (.lit (.int .u32 n), [])) (y2 := (.lit (.bool r), [])) (y3 := (.lit (.string d.data.toList), [])) Tryd.underlying72 (by kernel_rfl) (by kernel_rfl)
    (Joins.field_of_Trod (shut_bool Tryd.underlying4 x) rfl) (Joins.field_of_Trod (shut_int Tryd.underlying22 hn) rfl) (Joins.field_of_Trod (shut_bool Tryd.underlying4 r) rfl) (Joins.field_of_Trod (shut_string Tryd.underlying9 hd) rfl)
end Go.Proofs.YtnbfnipdiffphaaDoor
