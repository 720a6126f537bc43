/- Slices of bools and of texts that came in: taken apart. -/
import Derived.Test.YtkgeknkppnadfaaRows
import Derived.WalkKit
import Derived.Below
import Derived.ProofKit
import Derived.OpenShut
import Derived.ShutString
import Derived.Deep.Grids
import Derived.SliceStrings
namespace Go.Proofs.Ytkgeknkppnadfaa
open Go.ChangeShapes Go.WideShapes Go.ChangeAt Go.RowKit
/-- What the walk is told of a slice of bools that came in. -/
def IsBools (w : World) (a : Option Addr) (len cap : Nat) (B : Nat → Bool) : Prop :=
  (a = none ∧ len = 0 ∧ cap = 0) ∨ ∃ x, a = some x ∧ len ≤ cap ∧ cap ≤ maxLen ∧ ∀ i, i < cap → w.cell? (x.add i) = some (.bool (B i))
/-- What the walk is told of a slice of texts that came in. -/
def IsStrs (w : World) (a : Option Addr) (len cap : Nat) (B : Nat → ByteArray) : Prop :=
  (a = none ∧ len = 0 ∧ cap = 0) ∨ ∃ x, a = some x ∧ len ≤ cap ∧ cap ≤ maxLen ∧ ∀ i, i < cap → w.cell? (x.add i) = some (.string (B i)) ∧ (B i).size ≤ maxLen
theorem strs_of_trod {H : Type} {enc : TypeId × Value → H} {w : World} {s : Option Addr} {len cap : Nat} {d : DataW H} {p : List MemPlace} (h : DataW.Trod enc Try.prog w 0 (fun _ => true) true 50 (.slice s len cap) d p) : ∃ B, IsStrs w s len cap B := by
  obtain ⟨fuel, hf⟩ := h
  rcases open_strings Try.underlying50 Try.underlying9 (by kernel_rfl) hf with ⟨hcs, _⟩ | ⟨x, l, c, ss, hcs, _, hl, hm, hz, _, hcell, hwf⟩
  · simp [Value.cells] at hcs
    obtain ⟨rfl, rfl, rfl⟩ := hcs
    exact ⟨fun _ => ByteArray.empty, .inl ⟨rfl, rfl, rfl⟩⟩
  · simp [Value.cells] at hcs
    obtain ⟨rfl, rfl, rfl⟩ := hcs
    rw [if_pos rfl] at hz
    refine ⟨fun i => ss.getD i ByteArray.empty, .inr ⟨_, rfl, hl, hm, fun i hi => ⟨hcell i (by omega), ?_⟩⟩⟩
    have hi' : i < ss.length := by omega
    have e : ss.getD i ByteArray.empty = ss[i] := by rw [List.getD_eq_getElem?_getD, List.getElem?_eq_getElem hi']; rfl
    show (ss.getD i ByteArray.empty).size ≤ maxLen
    rw [e]
    exact hwf _ (List.getElem_mem hi')
end Go.Proofs.Ytkgeknkppnadfaa
