/- Layer 19: the document's table: its blocks; Get, NewTable, Add, Spread. -/
import Derived.Test.YtdkecdlgiomloaaD19
import Derived.Test.YtdkecdlgiomloaaSg
import Derived.Test.YtdkecdlgiomloaaHm
import Derived.Deep.CutBlock
namespace Go.Proofs.Ytdkecdlgiomloaa
open Go.RowKit Go.WideShapes
set_option linter.unusedVariables false
structure Rt (w : World) (r : Nat) (s : List Nat) (a : Option Addr) (c : Nat) : Prop where
  row : RowT 36 w r #[.slice a s.length c]
  ol : Sg.OL 3 1 0 w a c s.length (sL s)
def RtAt : Ob.A (List Nat) := fun w r F s => ∃ a c, (∀ g, F g ↔ g = r ∨ Sg.At_ a c g) ∧ Rt w r s a c ∧ Q19.Ok s
theorem rt_is : Ob.Is RtAt where
  on := fun {w w' p F s} ⟨a, c, hF, h, hO⟩ hk => by
    have hr : w'.heap[p]? = w.heap[p]? := hk _ ((hF _).2 (Or.inl rfl))
    refine ⟨a, c, hF, ⟨hr.trans h.row, ?_⟩, hO⟩
    by_cases h0 : 0 < c
    · obtain ⟨g, o, cur, e1, hB, hh⟩ := h.ol.ty h0
      subst e1
      have hg : w'.heap[g]? = w.heap[g]? := hk _ ((hF _).2 (Or.inr ⟨h0, rfl⟩))
      have hgl2 : g < w'.heap.size := (Array.getElem?_eq_some_iff.1 (hg.trans hh)).1
      refine ⟨⟨h.ol.sl.1, h.ol.sl.2.1, h.ol.sl.2.2.1, ?_⟩, fun _ => ⟨g, o, cur, rfl, hB, hg.trans hh⟩⟩
      rcases h.ol.sl.2.2.2 with hz | ⟨g', o', e2, hg', hc, hf⟩
      · exact Or.inl hz
      · injection e2 with e2
        injection e2 with e2 e3
        subst e2 e3
        exact Or.inr ⟨g, o, rfl, hgl2, fun k v hk => (Sg.cell_blk hg).trans (hc k v hk), fun j hj => ⟨by rw [Sg.cell_blk hg]; exact (hf j hj).1, by rw [Sg.frozen_blk hg]; exact (hf j hj).2⟩⟩
    · exact ⟨⟨h.ol.sl.1, h.ol.sl.2.1, h.ol.sl.2.2.1, Or.inl (by omega)⟩, fun k => absurd k h0⟩
  lt := fun {w p F s} ⟨a, c, hF, h, hO⟩ g hg => by
    rcases (hF g).1 hg with rfl | hg
    · exact h.row.lt
    · exact h.ol.lt g hg
theorem Rt.on {w w' : World} {r : Nat} {s : List Nat} {a : Option Addr} {c : Nat} (h : Rt w r s a c) (hb : Below w.heap.size w w') : Rt w' r s a c := ⟨h.row.on hb, h.ol.on hb⟩
theorem sL_get {l : List Nat} {k x : Nat} (h : l[k]? = some x) : (sL l)[k]? = some (.int .i64 (x : Int)) := by
  unfold sL
  rw [List.getElem?_map, h]
  rfl
/-- A number of the table. -/
theorem Rt.num {w : World} {r : Nat} {s : List Nat} {a : Option Addr} {c : Nat} (h : Rt w r s a c) {k x : Nat} (hk : s[k]? = some x) : ∃ g o, a = some ⟨g, o, none⟩ ∧ ∀ w', Below w.heap.size w w' → w'.cell? ⟨g, o + k, none⟩ = some (.int .i64 (x : Int)) ∧ w'.frozen? ⟨g, o + k, none⟩ = false := by
  have hkl := (List.getElem?_eq_some_iff.1 hk).1
  have hc0 : 0 < c := by have := h.ol.sl.1; omega
  obtain ⟨g, o, cur, e1, hB, hh⟩ := h.ol.ty hc0
  refine ⟨g, o, e1, fun w' hb => ?_⟩
  rcases (h.ol.on hb).sl.2.2.2 with hz | ⟨g', o', e2, hg', hc, hf⟩
  · omega
  · rw [e1] at e2
    injection e2 with e2
    injection e2 with e2 e3
    subst e2 e3
    have h1 := h.ol.sl.1
    exact ⟨hc k _ (sL_get hk), (hf k (by omega)).2⟩
set_option maxRecDepth 100000 in
set_option maxHeartbeats 4000000 in
theorem rt_get (w : World) (r : Nat) (F : Nat → Prop) (s : List Nat) (k : Int) (h : RtAt w r F s) : Ob.Looks Try.prog 18 #[Ob.ptr r, .int .i64 k] w (.int .i64 (Q19.get s k : Int)) := by
  obtain ⟨a, c, hF, h, hO⟩ := h
  have r0 := h.row.c 0 _ rfl
  have hl12 : (s.length : Int) ≤ 12 := by have := hO.len; omega
  unfold Ob.Looks
  by_cases k0 : k < 0
  · rw [Q19.get_no (Q19.inn_no (by omega))]
    clear hF h hO
    go_enter Try.func18, Try.ntmps18
    go_wp2
    go_ret
    exact ⟨rfl, Below.refl _ _⟩
  · obtain ⟨m, rfl⟩ := Int.eq_ofNat_of_zero_le (show 0 ≤ k by omega)
    by_cases km : m < s.length
    · obtain ⟨x, hx⟩ : ∃ x, s[m]? = some x := ⟨_, List.getElem?_eq_getElem km⟩
      obtain ⟨g, o, rfl, hc⟩ := h.num hx
      have c0 := (hc w (Below.refl _ _)).1
      rw [Q19.get_nat hx]
      have kmi : (m : Int) < (s.length : Int) := by omega
      have kmi2 : ¬ ((s.length : Int) ≤ (m : Int)) := by omega
      clear hF h hO hc hx
      generalize s.length = n at *
      go_enter Try.func18, Try.ntmps18
      go_wp2
      go_ret
      exact ⟨rfl, Below.refl _ _⟩
    · rw [Q19.get_no (Q19.inn_no (by omega))]
      have kmi : (s.length : Int) ≤ (m : Int) := by omega
      clear hF h hO
      generalize s.length = n at *
      go_enter Try.func18, Try.ntmps18
      go_wp2
      go_ret
      exact ⟨rfl, Below.refl _ _⟩
end Go.Proofs.Ytdkecdlgiomloaa
