/- Layer 19: numbers and truths that came in. -/
import Derived.Test.YtdkecdlgiomloaaJ19
import Derived.Deep.Grids
namespace Go.Proofs.Ytdkecdlgiomloaa
open Go.RowKit Go.WideShapes Go.ChangeShapes Go.ChangeAt
set_option linter.unusedVariables false
/-- What a walk is told of a slice of numbers, and of truths, that came in. -/
def IsI19 (w : World) (a : Option Addr) (len : Nat) (B : Nat → Int) : Prop := ∀ i, i < len → ∃ b off, a = some ⟨b, off, none⟩ ∧ w.cell? ⟨b, off + i, none⟩ = some (.int .i64 (B i)) ∧ (Lit.int .i64 (B i)).wf = true
def IsB19 (w : World) (a : Option Addr) (len : Nat) (B : Nat → Bool) : Prop := ∀ i, i < len → ∃ b off, a = some ⟨b, off, none⟩ ∧ w.cell? ⟨b, off + i, none⟩ = some (.bool (B i))
theorem i19_of_trod {H : Type} {enc : TypeId × Value → H} {w : World} {s : Option Addr} {len cap : Nat} {d : DataW H} {p : List MemPlace} (h : DataW.Trod enc Try.prog w 0 (fun _ => true) true 22 (.slice s len cap) d p) : ∃ B, IsI19 w s len B := by
  obtain ⟨fuel, hf⟩ := h
  rcases open_ints Try.underlying22 Try.underlying3 (by kernel_rfl) hf with ⟨hcs, _⟩ | ⟨x, l, c, zs, hcs, _, hl, hm, hz, _, hcell, hwf⟩
  · simp [Value.cells] at hcs
    obtain ⟨rfl, rfl, rfl⟩ := hcs
    exact ⟨fun _ => 0, fun i hi => by omega⟩
  · simp [Value.cells] at hcs
    obtain ⟨rfl, rfl, rfl⟩ := hcs
    rw [if_pos rfl] at hz
    refine ⟨fun i => zs.getD i 0, fun i hi => ?_⟩
    have hi' : i < zs.length := by omega
    have hw := hwf zs[i] (List.getElem_mem hi')
    have e : zs.getD i 0 = zs[i] := by rw [List.getD_eq_getElem?_getD, List.getElem?_eq_getElem hi']; rfl
    have hc := hcell i hi'
    obtain ⟨b, off, spot⟩ := x
    have hspot : spot = none := by simpa [Addr.add] using World.cell?_spot (hcell 0 (by omega))
    subst hspot
    rw [Go.WideShapes.add_plain] at hc
    exact ⟨b, off, rfl, hc, by show (Lit.int .i64 (zs.getD i 0)).wf = true; rw [e]; exact hw⟩
theorem b19_of_trod {H : Type} {enc : TypeId × Value → H} {w : World} {s : Option Addr} {len cap : Nat} {d : DataW H} {p : List MemPlace} (h : DataW.Trod enc Try.prog w 0 (fun _ => true) true 23 (.slice s len cap) d p) : ∃ B, IsB19 w s len B := by
  obtain ⟨fuel, hf⟩ := h
  rcases Deep.open_bools Try.underlying23 Try.underlying4 (by kernel_rfl) hf with ⟨hcs, _⟩ | ⟨x, l, c, B, hcs, _, hl, hm, _, hcell⟩
  · simp [Value.cells] at hcs
    obtain ⟨rfl, rfl, rfl⟩ := hcs
    exact ⟨fun _ => false, fun i hi => by omega⟩
  · simp [Value.cells] at hcs
    obtain ⟨rfl, rfl, rfl⟩ := hcs
    refine ⟨B, fun i hi => ?_⟩
    have hc := hcell i (by omega)
    obtain ⟨b, off, spot⟩ := x
    have hspot : spot = none := by simpa [Addr.add] using World.cell?_spot (hcell 0 (by omega))
    subst hspot
    rw [Go.WideShapes.add_plain] at hc
    exact ⟨b, off, rfl, hc⟩
/-- Such a slice is there in whatever world is made of that one. -/
theorem IsI19.hold {W : World} {a : Option Addr} {len : Nat} {B : Nat → Int} (h : IsI19 W a len B) : ∀ i, i < len → ∃ b off, a = some ⟨b, off, none⟩ ∧ (∀ w', Below W.heap.size W w' → w'.cell? ⟨b, off + i, none⟩ = some (.int .i64 (B i))) ∧ (Lit.int .i64 (B i)).wf = true := fun i hi => by
  obtain ⟨b, off, hs, hc, hw⟩ := h i hi
  exact ⟨b, off, hs, fun w' hb => (hb.cell (p := ⟨b, off + i, none⟩) (block_lt_of_cell hc)).trans hc, hw⟩
theorem IsB19.hold {W : World} {a : Option Addr} {len : Nat} {B : Nat → Bool} (h : IsB19 W a len B) : ∀ i, i < len → ∃ b off, a = some ⟨b, off, none⟩ ∧ ∀ w', Below W.heap.size W w' → w'.cell? ⟨b, off + i, none⟩ = some (.bool (B i)) := fun i hi => by
  obtain ⟨b, off, hs, hc⟩ := h i hi
  exact ⟨b, off, hs, fun w' hb => (hb.cell (p := ⟨b, off + i, none⟩) (block_lt_of_cell hc)).trans hc⟩
end Go.Proofs.Ytdkecdlgiomloaa
