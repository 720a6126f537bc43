/- Layer 19: the document's table: its blocks; Get, NewTable, Add, Spread. -/
import Derived.Test.YtfempghbkchepaaDoorD19
import Derived.Test.YtfempghbkchepaaDoorSg
import Derived.Test.YtfempghbkchepaaDoorHm
import Derived.Deep.CutBlock
namespace Go.Proofs.YtfempghbkchepaaDoor
open Go.RowKit Go.WideShapes
set_option linter.unusedVariables false
structure Rt (w : World) (r : Nat) (s : List Nat) (a : Option Addr) (c : Nat) : Prop where
  row : RowT 40 w r #[.slice a s.length c]
  ol : Sg.OL 3 1 0 w a c s.length (sL s)
def RtAt : Ob.A (List Nat) := fun w r F s => ∃ a c, (∀ g, F g ↔ g = r ∨ Sg.At_ a c g) ∧ Rt w r s a c ∧ Q19.Ok s
theorem rt_is : Ob.Is RtAt where
  on := fun {w w' p F s} ⟨a, c, hF, h, hO⟩ hk => by
    have hr : w'.heap[p]? = w.heap[p]? := hk _ ((hF _).2 (Or.inl rfl))
    refine ⟨a, c, hF, ⟨hr.trans h.row, ?_⟩, hO⟩
    by_cases h0 : 0 < c
    · obtain ⟨g, o, cur, e1, hB, hh⟩ := h.ol.ty h0
      subst e1
      have hg : w'.heap[g]? = w.heap[g]? := hk _ ((hF _).2 (Or.inr ⟨h0, rfl⟩))
      have hgl2 : g < w'.heap.size := (Array.getElem?_eq_some_iff.1 (hg.trans hh)).1
      refine ⟨⟨h.ol.sl.1, h.ol.sl.2.1, h.ol.sl.2.2.1, ?_⟩, fun _ => ⟨g, o, cur, rfl, hB, hg.trans hh⟩⟩
      rcases h.ol.sl.2.2.2 with hz | ⟨g', o', e2, hg', hc, hf⟩
      · exact Or.inl hz
      · injection e2 with e2
        injection e2 with e2 e3
        subst e2 e3
        exact Or.inr ⟨g, o, rfl, hgl2, fun k v hk => (Sg.cell_blk hg).trans (hc k v hk), fun j hj => ⟨by rw [Sg.cell_blk hg]; exact (hf j hj).1, by rw [Sg.frozen_blk hg]; exact (hf j hj).2⟩⟩
    · exact ⟨⟨h.ol.sl.1, h.ol.sl.2.1, h.ol.sl.2.2.1, Or.inl (by omega)⟩, fun k => absurd k h0⟩
  lt := fun {w p F s} ⟨a, c, hF, h, hO⟩ g hg => by
    rcases (hF g).1 hg with rfl | hg
    · exact h.row.lt
    · exact h.ol.lt g hg
theorem Rt.on {w w' : World} {r : Nat} {s : List Nat} {a : Option Addr} {c : Nat} (h : Rt w r s a c) (hb : Below w.heap.size w w') : Rt w' r s a c := ⟨h.row.on hb, h.ol.on hb⟩
theorem sL_get {l : List Nat} {k x : Nat} (h : l[k]? = some x) : (sL l)[k]? = some (.int .i64 (x : Int)) := by
  unfold sL
  rw [List.getElem?_map, h]
  rfl
/-- A number of the table. -/
theorem Rt.num {w : World} {r : Nat} {s : List Nat} {a : Option Addr} {c : Nat} (h : Rt w r s a c) {k x : Nat} (hk : s[k]? = some x) : ∃ g o, a = some ⟨g, o, none⟩ ∧ ∀ w', Below w.heap.size w w' → w'.cell? ⟨g, o + k, none⟩ = some (.int .i64 (x : Int)) ∧ w'.frozen? ⟨g, o + k, none⟩ = false := by
  have hkl := (List.getElem?_eq_some_iff.1 hk).1
  have hc0 : 0 < c := by have := h.ol.sl.1; omega
  obtain ⟨g, o, cur, e1, hB, hh⟩ := h.ol.ty hc0
  refine ⟨g, o, e1, fun w' hb => ?_⟩
  rcases (h.ol.on hb).sl.2.2.2 with hz | ⟨g', o', e2, hg', hc, hf⟩
  · omega
  · rw [e1] at e2
    injection e2 with e2
    injection e2 with e2 e3
    subst e2 e3
    have h1 := h.ol.sl.1
    exact ⟨hc k _ (sL_get hk), (hf k (by omega)).2⟩
end Go.Proofs.YtfempghbkchepaaDoor
