/- A list of triggers that came in. -/
import Derived.Test.YtlfhneiddfgoaaaDoorYa
import Derived.Test.YtlfhneiddfgoaaaDoorMo
namespace Go.Proofs.YtlfhneiddfgoaaaDoor
open Go.RowKit Go.WideShapes
set_option linter.unusedVariables false
theorem flatTrig : Fo.flat Tryd.prog 4 44 = some [(0, .int .i64), (1, .int .i64), (2, .int .i64), (3, .int .i64), (4, .int .i64), (5, .int .i64)] := by kernel_rfl
theorem trigs_of_trod {H : Type} {enc : TypeId × Value → H} {w : World} {s : Option Addr} {len cap : Nat} {d : DataW H} {p : List MemPlace} (h : DataW.Trod enc Tryd.prog w 0 (fun _ => true) true 31 (.slice s len cap) d p) : ∃ l : List Yq.Tr, l.length = len ∧ (∀ x ∈ l, Yq.Wf x) ∧ LI w s cap len (l.flatMap tC) :=
  list_of_rows (f := tC) (sz := 6) 4 (.int .i64) [(1, .int .i64), (2, .int .i64), (3, .int .i64), (4, .int .i64), (5, .int .i64)] (fun x : Yq.Tr => Yq.Wf x) (fun _ => rfl) (by decide) Tryd.underlying31 flatTrig (by kernel_rfl) (fun c hc => by
    obtain ⟨v0, h0, n0, rfl, w0⟩ := hc (0, .int .i64) (by simp)
    obtain ⟨v1, h1, n1, rfl, w1⟩ := hc (1, .int .i64) (by simp)
    obtain ⟨v2, h2, n2, rfl, w2⟩ := hc (2, .int .i64) (by simp)
    obtain ⟨v3, h3, n3, rfl, w3⟩ := hc (3, .int .i64) (by simp)
    obtain ⟨v4, h4, n4, rfl, w4⟩ := hc (4, .int .i64) (by simp)
    obtain ⟨v5, h5, n5, rfl, w5⟩ := hc (5, .int .i64) (by simp)
    exact ⟨⟨n0, n1, n2, n3, n4, n5⟩, ⟨w0, w1, w2, w3, w4, w5⟩, get6 (P := fun j v => c j = some v) h0 h1 h2 h3 h4 h5⟩) h
end Go.Proofs.YtlfhneiddfgoaaaDoor
