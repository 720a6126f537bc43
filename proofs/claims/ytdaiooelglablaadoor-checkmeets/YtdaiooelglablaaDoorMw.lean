/- A window that came in. -/
import Derived.Test.YtdaiooelglablaaDoorMo
namespace Go.Proofs.YtdaiooelglablaaDoor
open Go.RowKit
set_option linter.unusedVariables false
def Mx.WinWf (x : Mx.Win) : Prop := (Lit.int .i64 x.kind).wf = true ∧ (Lit.int .i64 x.start).wf = true ∧ (Lit.int .i64 x.fin).wf = true ∧ (Lit.int .i64 x.cycle).wf = true ∧ (Lit.int .i64 x.rep).wf = true ∧ (Lit.int .i64 x.msg).wf = true
theorem winFields : ∃ fs, Tryd.prog.underlying 40 = some (.struct fs) ∧ Deep.oneCellFields Tryd.prog fs = true ∧ Tryd.prog.cellsOf 40 = fs.size ∧ fs.size = 6 ∧ (fs.toList.map (·.type)) = [3, 3, 3, 3, 3, 3] := by
  refine ⟨_, Tryd.underlying40, by kernel_rfl, by kernel_rfl, by kernel_rfl, by kernel_rfl⟩
theorem array6 {α : Type} {cs : Array α} (h : cs.size = 6) {c0 c1 c2 c3 c4 c5 : α} (h0 : cs[0]? = some c0) (h1 : cs[1]? = some c1) (h2 : cs[2]? = some c2) (h3 : cs[3]? = some c3) (h4 : cs[4]? = some c4) (h5 : cs[5]? = some c5) : cs = #[c0, c1, c2, c3, c4, c5] := by
  apply Array.ext_getElem?
  intro i
  match i with
  | 0 => exact h0
  | 1 => exact h1
  | 2 => exact h2
  | 3 => exact h3
  | 4 => exact h4
  | 5 => exact h5
  | j + 6 => rw [Array.getElem?_eq_none (by omega), Array.getElem?_eq_none (by simp)]
theorem window_of_trod {H : Type} {enc : TypeId × Value → H} {w : World} {r : Reach} {b0 : Nat} {v : Value} {d : DataW H} {p : List MemPlace} (hv : Value.okWide Tryd.prog w r b0 40 v) (h : DataW.Trod enc Tryd.prog w 0 (fun _ => true) true 40 v d p) : ∃ x : Mx.Win, v = .agg #[.int .i64 x.kind, .int .i64 x.start, .int .i64 x.fin, .int .i64 x.cycle, .int .i64 x.rep, .int .i64 x.msg] ∧ Mx.WinWf x := by
  obtain ⟨fs, hs, hone, hC, hsz, hty⟩ := winFields
  obtain ⟨cs, rfl, hcs, hf⟩ := fields_of_trod hs hone hC hv h
  have fld : ∀ (i : Nat) (t : TypeId), (fs.toList.map (·.type))[i]? = some t → ∃ n y c, cs[i]? = some c ∧ DataW.trod enc Tryd.prog w 0 (fun _ => true) true n t [c] = some y := fun i t hi => by
    rw [List.getElem?_map] at hi
    obtain ⟨f, hfi, rfl⟩ := Option.map_eq_some_iff.1 hi
    exact hf i f (by simpa using hfi)
  rw [hty] at fld
  have int_ : ∀ i, ([3, 3, 3, 3, 3, 3] : List TypeId)[i]? = some 3 → ∃ z : Int, cs[i]? = some (Value.int .i64 z) ∧ (Lit.int .i64 z).wf = true := fun i hi => by
    obtain ⟨n, y, c, h1, h2⟩ := fld i _ hi
    obtain ⟨z, hz, _, hw⟩ := DataW.trod_int Tryd.underlying3 h2
    obtain rfl := List.singleton_inj.1 hz
    exact ⟨z, h1, hw⟩
  obtain ⟨z0, e0, w0⟩ := int_ 0 rfl
  obtain ⟨z1, e1, w1⟩ := int_ 1 rfl
  obtain ⟨z2, e2, w2⟩ := int_ 2 rfl
  obtain ⟨z3, e3, w3⟩ := int_ 3 rfl
  obtain ⟨z4, e4, w4⟩ := int_ 4 rfl
  obtain ⟨z5, e5, w5⟩ := int_ 5 rfl
  exact ⟨⟨z0, z1, z2, z3, z4, z5⟩, congrArg Value.agg (array6 (hcs.trans hsz) e0 e1 e2 e3 e4 e5), ⟨w0, w1, w2, w3, w4, w5⟩⟩
end Go.Proofs.YtdaiooelglablaaDoor
