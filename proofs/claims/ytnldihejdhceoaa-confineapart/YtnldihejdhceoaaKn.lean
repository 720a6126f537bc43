/- Counters and slices of bytes that came in: taken apart, put together. -/
import Derived.Test.YtnldihejdhceoaaK1
import Derived.ProofKit
import Derived.OpenShut
import Derived.ShutString
import Derived.Lib.SmallJoins
import Derived.ChangeSlices
import Derived.Deep.Grids
namespace Go.Proofs.Ytnldihejdhceoaa
open Go.ChangeShapes Go.WideShapes Go.ChangeAt Go.RowKit
theorem open_counts {H : Type} {enc : TypeId × Value → H} {w : World} {base b0 : Nat} {r : Reach} {sp : Nat → Bool} {held : Bool} {v : Value} {d : DataW H} {p : List MemPlace} (hv : Value.okWide Try.prog w r b0 23 v) (h : DataW.Trod enc Try.prog w base sp held 23 v d p) :
    ∃ a b : Int, v = .agg #[.int .i64 a, .int .i64 b] ∧ d = .agg [.lit (.int .i64 a), .lit (.int .i64 b)] ∧ p = [] ++ [] ∧ (Lit.int .i64 a).wf = true ∧ (Lit.int .i64 b).wf = true := by
  obtain ⟨e0, e1, y0, y1, n, rfl, rfl, rfl, k0, k1⟩ := Joins.open_agg2 Try.underlying23 (by kernel_rfl) (by kernel_rfl) hv h
  obtain ⟨a, hx0, rfl, w0⟩ := DataW.trod_int Try.underlying3 k0
  obtain ⟨b, hx1, rfl, w1⟩ := DataW.trod_int Try.underlying3 k1
  obtain rfl := List.singleton_inj.1 hx0
  obtain rfl := List.singleton_inj.1 hx1
  exact ⟨a, b, rfl, rfl, rfl, w0, w1⟩
theorem shut_counts {H : Type} {enc : TypeId × Value → H} {w : World} {base : Nat} {sp : Nat → Bool} {held : Bool} {a b : Int} (w0 : (Lit.int .i64 a).wf = true) (w1 : (Lit.int .i64 b).wf = true) :
    DataW.Trod enc Try.prog w base sp held 23 (.agg #[.int .i64 a, .int .i64 b]) (.agg [.lit (.int .i64 a), .lit (.int .i64 b)]) ([] ++ []) :=
  Joins.shut_agg2 (y0 := (.lit (.int .i64 a), [])) (y1 := (.lit (.int .i64 b), [])) Try.underlying23 (by kernel_rfl) (by kernel_rfl)
    (Joins.field_of_Trod (shut_int Try.underlying3 w0) rfl) (Joins.field_of_Trod (shut_int Try.underlying3 w1) rfl)
/-- What a walk is told of a slice of bytes that came in. -/
def IsU8s (w : World) (a : Option Addr) (len cap : Nat) (B : Nat → Nat) : Prop :=
  (a = none ∧ len = 0 ∧ cap = 0) ∨ ∃ x, a = some x ∧ len ≤ cap ∧ cap ≤ maxLen ∧ ∀ i, i < cap → w.cell? (x.add i) = some (.int .u8 (B i : Int)) ∧ B i < 256
theorem u8s_of_trod {H : Type} {enc : TypeId × Value → H} {w : World} {s : Option Addr} {len cap : Nat} {d : DataW H} {p : List MemPlace} (h : DataW.Trod enc Try.prog w 0 (fun _ => true) true 28 (.slice s len cap) d p) : ∃ B, IsU8s w s len cap B := by
  obtain ⟨fuel, hf⟩ := h
  rcases open_ints Try.underlying28 Try.underlying5 (by kernel_rfl) hf with ⟨hcs, _⟩ | ⟨x, l, c, zs, hcs, _, hl, hm, hz, _, hcell, hwf⟩
  · simp [Value.cells] at hcs
    obtain ⟨rfl, rfl, rfl⟩ := hcs
    exact ⟨fun _ => 0, .inl ⟨rfl, rfl, rfl⟩⟩
  · simp [Value.cells] at hcs
    obtain ⟨rfl, rfl, rfl⟩ := hcs
    rw [if_pos rfl] at hz
    refine ⟨fun i => (zs.getD i 0).toNat, .inr ⟨_, rfl, hl, hm, fun i hi => ?_⟩⟩
    have hi' : i < zs.length := by omega
    have hb := bounds_u8 (hwf zs[i] (List.getElem_mem hi'))
    have e : zs.getD i 0 = zs[i] := by rw [List.getD_eq_getElem?_getD, List.getElem?_eq_getElem hi']; rfl
    have hc := hcell i hi'
    show w.cell? (x.add i) = some (.int .u8 ((zs.getD i 0).toNat : Int)) ∧ (zs.getD i 0).toNat < 256
    rw [e] at hc ⊢
    exact ⟨by rw [Int.toNat_of_nonneg hb.1]; exact hc, by omega⟩
end Go.Proofs.Ytnldihejdhceoaa
