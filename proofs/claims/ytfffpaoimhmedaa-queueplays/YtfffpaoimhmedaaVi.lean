/- Layer 17: steps that came in. -/
import Derived.Test.YtfffpaoimhmedaaVh
import Derived.Test.YtfffpaoimhmedaaFo
import Derived.Test.YtfffpaoimhmedaaHl
import Derived.ProofKit
import Derived.OpenShut
namespace Go.Proofs.Ytfffpaoimhmedaa
open Go.ChangeShapes Go.WideShapes Go.ChangeAt Go.RowKit
set_option linter.unusedVariables false
/-- The steps' cells, as the walk meets them. -/
def StepRow17 (W : World) (s : Option Addr) (len : Nat) (wh ms : Nat → Int) (ds : Nat → ByteArray) : Prop := len = 0 ∨ ∃ b off, s = some ⟨b, off, none⟩ ∧ ∀ i, i < len →
  W.cell? ⟨b, off + i * 3, none⟩ = some (.int .i64 (wh i)) ∧ W.cell? ⟨b, off + i * 3 + 1, none⟩ = some (.int .i64 (ms i)) ∧ W.cell? ⟨b, off + i * 3 + 2, none⟩ = some (.string (ds i)) ∧
  (Lit.int .i64 (wh i)).wf = true ∧ (Lit.int .i64 (ms i)).wf = true
theorem stFlat17 : Fo.flat Try.prog 4 29 = some [(0, .int .i64), (1, .int .i64), (2, .str)] := by kernel_rfl
theorem steps17_of_trod {H : Type} {enc : TypeId × Value → H} {w : World} {s : Option Addr} {len cap : Nat} {d : DataW H} {p : List MemPlace} (h : DataW.Trod enc Try.prog w 0 (fun _ => true) true 22 (.slice s len cap) d p) : ∃ wh ms ds, StepRow17 w s len wh ms ds := by
  obtain ⟨_, h0 | ⟨b, off, rfl, hc⟩⟩ := Fo.flat_rows 4 (.int .i64) [(1, .int .i64), (2, .str)] 3 Try.underlying22 stFlat17 (by kernel_rfl) h
  · exact ⟨fun _ => 0, fun _ => 0, fun _ => ByteArray.empty, Or.inl h0⟩
  · have key : ∀ i, ∃ t : Int × Int × ByteArray, i < len → w.cell? ⟨b, off + i * 3, none⟩ = some (.int .i64 t.1) ∧ w.cell? ⟨b, off + i * 3 + 1, none⟩ = some (.int .i64 t.2.1) ∧ w.cell? ⟨b, off + i * 3 + 2, none⟩ = some (.string t.2.2) ∧
        (Lit.int .i64 t.1).wf = true ∧ (Lit.int .i64 t.2.1).wf = true := fun i => by
      by_cases hi : i < len
      · have hq := hc i hi
        obtain ⟨v1, c1, n1, rfl, hw1⟩ := hq (0, .int .i64) (by simp)
        obtain ⟨v2, c2, n2, rfl, hw2⟩ := hq (1, .int .i64) (by simp)
        obtain ⟨v3, c3, n3, rfl, _⟩ := hq (2, .str) (by simp)
        refine ⟨(n1, n2, n3), fun _ => ?_⟩
        simp only [← Nat.add_assoc] at c1 c2 c3
        exact ⟨c1, c2, c3, hw1, hw2⟩
      · exact ⟨(0, 0, ByteArray.empty), fun k => absurd k hi⟩
    obtain ⟨F, hF⟩ := Classical.axiomOfChoice key
    exact ⟨fun i => (F i).1, fun i => (F i).2.1, fun i => (F i).2.2, Or.inr ⟨b, off, rfl, hF⟩⟩
/-- A block that is there. -/
theorem cell_lt17 {w : World} {g k : Nat} {v : Value} (h : w.cell? ⟨g, k, none⟩ = some v) : g < w.heap.size := by
  apply Classical.byContradiction
  intro h0
  have hn : w.heap[g]? = none := Array.getElem?_eq_none (by omega)
  unfold World.cell? at h
  dsimp only at h
  rw [hn] at h
  simp at h
/-- An operation that its guard leaves out, taken ahead. -/
theorem skipL {P : Program} {ops : Array Oper} {Q : Exit → Act → World → Prop} {md : Region.Mode} {S : World → Prop} {i d : Nat} {op : Op} {ty : TypeId} {pos : String} {after : Array Edge} {guard : Option (Nat × Bool)} {fuel : Nat} {listed : Array Bool} {a : Act} {w : World} (hi : ops[i]? = some ⟨some d, op, ty, pos, after, guard⟩)
    (hs : Region.noSelect ops = true) (hf : Region.free md ops listed i = true) (hr : (Region.ready md ops listed).contains i = true) (hQ : ∀ c a w, Q (.panic c) (a.put (some d) undef) w → Q (.panic c) a w)
    (hw : Region.wanted ⟨some d, op, ty, pos, after, guard⟩ (yielded ops a.tmps) = false) (hS : S w)
    (h : wpAnyH P md ops Q S fuel (listed.setIfInBounds i true) (a.put (some d) undef) w) : wpAnyH P md ops Q S (fuel + 1) listed a w :=
  wpAnyH_take hi hs hf hr hQ (Or.inr ⟨hw, rfl⟩) hS h
def Rows17 (R : List (Nat × Obj)) (w : World) : Prop := ∀ x ∈ R, w.heap[x.1]? = some x.2
theorem Rows17.more {R R' : List (Nat × Obj)} {w : World} (h : Rows17 R' w) (hs : ∀ x ∈ R, x ∈ R') : Rows17 R w := fun x hx => h x (hs x hx)
end Go.Proofs.Ytfffpaoimhmedaa
