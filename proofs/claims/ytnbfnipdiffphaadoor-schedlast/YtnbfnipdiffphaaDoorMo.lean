/- A matrix that came in: taken apart. -/
import Derived.Test.YtnbfnipdiffphaaDoorMv
import Derived.Test.YtnbfnipdiffphaaDoorFo
import Derived.Lib.SmallJoins
namespace Go.Proofs.YtnbfnipdiffphaaDoor
open Go.ChangeShapes Go.WideShapes Go.ChangeAt Go.RowKit
set_option linter.unusedVariables false
set_option maxRecDepth 100000
/-- A struct of one-cell fields, by value: the value written out, each field's cell with its reading. -/
theorem fields_of_trod {H : Type} {enc : TypeId × Value → H} {P : Program} {w : World} {base b0 : Nat} {spare : Nat → Bool} {held : Bool} {r : Reach} {t : TypeId} {fs : Array Field} {v : Value} {d : DataW H} {p : List MemPlace} (hs : P.underlying t = some (.struct fs)) (hone : Deep.oneCellFields P fs = true) (hC : P.cellsOf t = fs.size)
    (hv : Value.okWide P w r b0 t v) (h : DataW.Trod enc P w base spare held t v d p) : ∃ cs : Array Value, v = .agg cs ∧ cs.size = fs.size ∧ ∀ (i : Nat) (f : Field), fs[i]? = some f → ∃ n y c, cs[i]? = some c ∧ DataW.trod enc P w base spare held n f.type [c] = some y := by
  obtain ⟨cs, rfl, hsz⟩ := okWide_struct hs hv
  obtain ⟨fuel, hf⟩ := h
  obtain ⟨xs, n, _, _, hl, hlen, hx⟩ := DataW.trod_struct hs hf
  refine ⟨cs, rfl, hsz.trans hC, fun i f hfi => ?_⟩
  obtain ⟨o, k⟩ := Deep.hone_of hone i f hfi
  have hi : i < cs.size := by rw [hsz, hC]; exact (Array.getElem?_eq_some_iff.1 hfi).1
  have h1 := hx i f hfi
  have hix : i < xs.length := by rw [hlen]; exact (Array.getElem?_eq_some_iff.1 hfi).1
  rw [List.getElem?_eq_getElem hix] at h1
  refine ⟨n, xs[i], cs[i], Array.getElem?_eq_getElem hi, ?_⟩
  rw [← h1]
  congr 1
  rw [o, k]
  simp [Value.cells, List.take_one, hi]
/-- What stands at a place of things laid one behind the other. -/
theorem flat_get {α : Type} {f : α → List Value} {sz : Nat} (hf : ∀ x, (f x).length = sz) (hz : 0 < sz) : ∀ (l : List α) (k : Nat) (v : Value), (l.flatMap f)[k]? = some v → ∃ i j x, k = i * sz + j ∧ l[i]? = some x ∧ (f x)[j]? = some v
  | [], k, v, h => by simp at h
  | a :: l, k, v, h => by
    rw [List.flatMap_cons] at h
    by_cases hk : k < sz
    · rw [List.getElem?_append_left (by rw [hf]; exact hk)] at h
      exact ⟨0, k, a, by omega, rfl, h⟩
    · rw [List.getElem?_append_right (by rw [hf]; omega), hf] at h
      obtain ⟨i, j, x, h1, h2, h3⟩ := flat_get hf hz l (k - sz) v h
      exact ⟨i + 1, j, x, by rw [Nat.succ_mul]; omega, h2, h3⟩
/-- A slice that came in, as a list. -/
theorem list_of_rows {H : Type} {enc : TypeId × Value → H} {w : World} {α : Type} {f : α → List Value} {sz : Nat} {t e : TypeId} {s : Option Addr} {len cap : Nat} {d : DataW H} {p : List MemPlace} (n : Nat) (k0 : Fo.K) (ks : List (Nat × Fo.K)) (ok : α → Prop) (hf : ∀ x, (f x).length = sz) (hz : 0 < sz) (ht : Tryd.prog.underlying t = some (.slice e)) (hfl : Fo.flat Tryd.prog n e = some ((0, k0) :: ks)) (hsz : Tryd.prog.cellsOf e = sz)
    (hmk : ∀ c : Nat → Option Value, (∀ q ∈ (0, k0) :: ks, ∃ v, c q.1 = some v ∧ q.2.fit v) → ∃ x, ok x ∧ ∀ j v, (f x)[j]? = some v → c j = some v)
    (h : DataW.Trod enc Tryd.prog w 0 (fun _ => true) true t (.slice s len cap) d p) :
    ∃ l : List α, l.length = len ∧ (∀ x ∈ l, ok x) ∧ LI w s cap len (l.flatMap f) := by
  rcases Fo.flat_slice n _ sz ht hfl hsz h with ⟨rfl, rfl, rfl⟩ | ⟨x, rfl, hl, hm, hcell⟩
  · exact ⟨[], rfl, (fun x hx => by cases hx), Nat.le_refl _, Nat.zero_le _, Or.inl rfl⟩
  · by_cases h0 : len = 0
    · subst h0
      exact ⟨[], rfl, (fun x hx => by cases hx), hl, hm, Or.inl rfl⟩
    obtain ⟨b, o, sp⟩ := x
    obtain ⟨v0, hv0, _⟩ := hcell 0 (by omega) (0, k0) (List.mem_cons_self ..)
    have hsp : sp = none := by simpa [Addr.add] using World.cell?_spot hv0
    subst hsp
    have hb : b < w.heap.size := by
      rw [Go.WideShapes.add_plain] at hv0
      exact block_lt_of_cell hv0
    have one : ∀ i, i < cap → ∃ x : α, ok x ∧ ∀ j v, (f x)[j]? = some v → w.cell? ⟨b, o + (i * sz + j), none⟩ = some v := fun i hi =>
      hmk (fun j => w.cell? ⟨b, o + (i * sz + j), none⟩) (fun q hq => by
        obtain ⟨v, hv, hfit⟩ := hcell i hi q hq
        exact ⟨v, by rw [← Go.WideShapes.add_plain]; exact hv, hfit⟩)
    obtain ⟨x0, _⟩ := one 0 (by omega)
    have key : ∀ i, ∃ x : α, i < cap → ok x ∧ ∀ j v, (f x)[j]? = some v → w.cell? ⟨b, o + (i * sz + j), none⟩ = some v := fun i => by
      by_cases hi : i < cap
      · obtain ⟨x, hx⟩ := one i hi
        exact ⟨x, fun _ => hx⟩
      · exact ⟨x0, fun k => absurd k hi⟩
    obtain ⟨F, hF⟩ := Classical.axiomOfChoice key
    refine ⟨(List.range len).map F, by simp, fun x hx => ?_, hl, hm, Or.inr ⟨b, o, rfl, hb, fun k v hk => ?_⟩⟩
    · obtain ⟨i, hi, rfl⟩ := List.mem_map.1 hx
      exact (hF i (by have := List.mem_range.1 hi; omega)).1
    · obtain ⟨i, j, x, rfl, hx, hv⟩ := flat_get hf hz _ k v hk
      rw [List.getElem?_map] at hx
      obtain ⟨i', hi', rfl⟩ := Option.map_eq_some_iff.1 hx
      have hi2 : i < len := by
        have := (List.getElem?_eq_some_iff.1 hi').1
        simpa using this
      have : i' = i := by
        rw [List.getElem?_range hi2] at hi'
        injection hi' with hi'
        exact hi'.symm
      subst this
      exact (hF i' (by omega)).2 j v hv
/-- What is known of the numbers of a matrix that came in. -/
structure Mx.Wf (m : Mx.M) : Prop where
  level : (Lit.int .i64 m.level).wf = true
  nodes : (Lit.int .i64 m.nodes).wf = true
  cycles : (Lit.int .i64 m.cycles).wf = true
  length : (Lit.int .i64 m.length).wf = true
  enable : (Lit.int .i64 m.enable).wf = true
  unit : (Lit.int .i64 m.unit).wf = true
  init : (Lit.int .i64 m.init).wf = true
  ref : m.ref < 4294967296
  masters : ∀ x ∈ m.masters, (Lit.int .i64 x).wf = true
  messages : ∀ x ∈ m.messages, x.id < 4294967296 ∧ (Lit.int .i64 x.owner).wf = true
  windows : ∀ x ∈ m.windows, (Lit.int .i64 x.kind).wf = true ∧ (Lit.int .i64 x.start).wf = true ∧ (Lit.int .i64 x.fin).wf = true ∧ (Lit.int .i64 x.cycle).wf = true ∧ (Lit.int .i64 x.rep).wf = true ∧ (Lit.int .i64 x.msg).wf = true
theorem u32_natM {x : Int} (h : (Lit.int .u32 x).wf = true) : ∃ n : Nat, x = (n : Int) ∧ n < 4294967296 := by
  obtain ⟨h1, h2⟩ := bounds_u32 h
  obtain ⟨n, rfl⟩ := Int.eq_ofNat_of_zero_le h1
  exact ⟨n, rfl, by omega⟩
theorem flatInt : Fo.flat Tryd.prog 4 3 = some [(0, .int .i64)] := by kernel_rfl
theorem flatMsg : Fo.flat Tryd.prog 4 60 = some [(0, .int .u32), (1, .int .i64), (2, .bool)] := by kernel_rfl
theorem flatWin : Fo.flat Tryd.prog 4 58 = some [(0, .int .i64), (1, .int .i64), (2, .int .i64), (3, .int .i64), (4, .int .i64), (5, .int .i64)] := by kernel_rfl
theorem matFields : ∃ fs, Tryd.prog.underlying 27 = some (.struct fs) ∧ Deep.oneCellFields Tryd.prog fs = true ∧ Tryd.prog.cellsOf 27 = fs.size ∧ fs.size = 11 ∧ (fs.toList.map (·.type)) = [3, 3, 3, 3, 3, 3, 3, 22, 23, 24, 25] := by
  refine ⟨_, Tryd.underlying27, by kernel_rfl, by kernel_rfl, by kernel_rfl, by kernel_rfl⟩
theorem slice_low {H : Type} {enc : TypeId × Value → H} {w : World} {t e : TypeId} {n : Nat} {c : Value} {y : DataW H × List MemPlace} (ht : Tryd.prog.underlying t = some (.slice e)) (hf : DataW.trod enc Tryd.prog w 0 (fun _ => true) true n t [c] = some y) : ∃ s len cap, c = .slice s len cap ∧ DataW.Trod enc Tryd.prog w 0 (fun _ => true) true t (.slice s len cap) y.1 y.2 := by
  obtain ⟨s, len, cap, hc⟩ := Joins.slice_form ht hf
  injection hc with hc
  subst hc
  exact ⟨s, len, cap, rfl, n, by simpa [Value.cells] using hf⟩
theorem get3 {a b c : Value} {P : Nat → Value → Prop} (h0 : P 0 a) (h1 : P 1 b) (h2 : P 2 c) : ∀ j v, [a, b, c][j]? = some v → P j v
  | 0, v, h => by injection h with h; subst h; exact h0
  | 1, v, h => by injection h with h; subst h; exact h1
  | 2, v, h => by injection h with h; subst h; exact h2
  | j + 3, v, h => by simp at h
theorem get6 {a b c d e f : Value} {P : Nat → Value → Prop} (h0 : P 0 a) (h1 : P 1 b) (h2 : P 2 c) (h3 : P 3 d) (h4 : P 4 e) (h5 : P 5 f) : ∀ j v, [a, b, c, d, e, f][j]? = some v → P j v
  | 0, v, h => by injection h with h; subst h; exact h0
  | 1, v, h => by injection h with h; subst h; exact h1
  | 2, v, h => by injection h with h; subst h; exact h2
  | 3, v, h => by injection h with h; subst h; exact h3
  | 4, v, h => by injection h with h; subst h; exact h4
  | 5, v, h => by injection h with h; subst h; exact h5
  | j + 6, v, h => by simp at h
theorem masters_of {H : Type} {enc : TypeId × Value → H} {w : World} {s : Option Addr} {len cap : Nat} {d : DataW H} {p : List MemPlace} (h : DataW.Trod enc Tryd.prog w 0 (fun _ => true) true 23 (.slice s len cap) d p) : ∃ l : List Int, l.length = len ∧ (∀ x ∈ l, (Lit.int .i64 x).wf = true) ∧ LI w s cap len (l.flatMap mC1) :=
  list_of_rows (f := mC1) (sz := 1) 4 (.int .i64) [] (fun x => (Lit.int .i64 x).wf = true) (fun _ => rfl) (by decide) Tryd.underlying23 flatInt (by kernel_rfl) (fun c hc => by
    obtain ⟨v, hv, n, rfl, hw⟩ := hc (0, .int .i64) (by simp)
    refine ⟨n, hw, fun j v hj => ?_⟩
    cases j with
    | zero => injection hj with hj; subst hj; exact hv
    | succ j => simp [mC1] at hj) h
theorem messages_of {H : Type} {enc : TypeId × Value → H} {w : World} {s : Option Addr} {len cap : Nat} {d : DataW H} {p : List MemPlace} (h : DataW.Trod enc Tryd.prog w 0 (fun _ => true) true 24 (.slice s len cap) d p) : ∃ l : List Mx.Msg, l.length = len ∧ (∀ x ∈ l, x.id < 4294967296 ∧ (Lit.int .i64 x.owner).wf = true) ∧ LI w s cap len (l.flatMap mC2) :=
  list_of_rows (f := mC2) (sz := 3) 4 (.int .u32) [(1, .int .i64), (2, .bool)] (fun x : Mx.Msg => x.id < 4294967296 ∧ (Lit.int .i64 x.owner).wf = true) (fun _ => rfl) (by decide) Tryd.underlying24 flatMsg (by kernel_rfl) (fun c hc => by
    obtain ⟨v0, h0, n0, rfl, w0⟩ := hc (0, .int .u32) (by simp)
    obtain ⟨v1, h1, n1, rfl, w1⟩ := hc (1, .int .i64) (by simp)
    obtain ⟨v2, h2, n2, rfl⟩ := hc (2, .bool) (by simp)
    obtain ⟨N, rfl, hN⟩ := u32_natM w0
    exact ⟨⟨N, n1, n2⟩, ⟨hN, w1⟩, get3 (P := fun j v => c j = some v) h0 h1 h2⟩) h
theorem windows_of {H : Type} {enc : TypeId × Value → H} {w : World} {s : Option Addr} {len cap : Nat} {d : DataW H} {p : List MemPlace} (h : DataW.Trod enc Tryd.prog w 0 (fun _ => true) true 25 (.slice s len cap) d p) : ∃ l : List Mx.Win, l.length = len ∧ (∀ x ∈ l, (Lit.int .i64 x.kind).wf = true ∧ (Lit.int .i64 x.start).wf = true ∧ (Lit.int .i64 x.fin).wf = true ∧ (Lit.int .i64 x.cycle).wf = true ∧ (Lit.int .i64 x.rep).wf = true ∧ (Lit.int .i64 x.msg).wf = true) ∧ LI w s cap len (l.flatMap mC3) :=
  list_of_rows (f := mC3) (sz := 6) 4 (.int .i64) [(1, .int .i64), (2, .int .i64), (3, .int .i64), (4, .int .i64), (5, .int .i64)] (fun x : Mx.Win => (Lit.int .i64 x.kind).wf = true ∧ (Lit.int .i64 x.start).wf = true ∧ (Lit.int .i64 x.fin).wf = true ∧ (Lit.int .i64 x.cycle).wf = true ∧ (Lit.int .i64 x.rep).wf = true ∧ (Lit.int .i64 x.msg).wf = true) (fun _ => rfl) (by decide) Tryd.underlying25 flatWin (by kernel_rfl) (fun c hc => by
    obtain ⟨v0, h0, n0, rfl, w0⟩ := hc (0, .int .i64) (by simp)
    obtain ⟨v1, h1, n1, rfl, w1⟩ := hc (1, .int .i64) (by simp)
    obtain ⟨v2, h2, n2, rfl, w2⟩ := hc (2, .int .i64) (by simp)
    obtain ⟨v3, h3, n3, rfl, w3⟩ := hc (3, .int .i64) (by simp)
    obtain ⟨v4, h4, n4, rfl, w4⟩ := hc (4, .int .i64) (by simp)
    obtain ⟨v5, h5, n5, rfl, w5⟩ := hc (5, .int .i64) (by simp)
    exact ⟨⟨n0, n1, n2, n3, n4, n5⟩, ⟨w0, w1, w2, w3, w4, w5⟩, get6 (P := fun j v => c j = some v) h0 h1 h2 h3 h4 h5⟩) h
theorem array11 {α : Type} {cs : Array α} (h : cs.size = 11) {c0 c1 c2 c3 c4 c5 c6 c7 c8 c9 c10 : α} (h0 : cs[0]? = some c0) (h1 : cs[1]? = some c1) (h2 : cs[2]? = some c2) (h3 : cs[3]? = some c3) (h4 : cs[4]? = some c4) (h5 : cs[5]? = some c5) (h6 : cs[6]? = some c6) (h7 : cs[7]? = some c7) (h8 : cs[8]? = some c8) (h9 : cs[9]? = some c9) (h10 : cs[10]? = some c10) : cs = #[c0, c1, c2, c3, c4, c5, c6, c7, c8, c9, c10] := by
  apply Array.ext_getElem?
  intro i
  match i with
  | 0 => exact h0
  | 1 => exact h1
  | 2 => exact h2
  | 3 => exact h3
  | 4 => exact h4
  | 5 => exact h5
  | 6 => exact h6
  | 7 => exact h7
  | 8 => exact h8
  | 9 => exact h9
  | 10 => exact h10
  | j + 11 => rw [Array.getElem?_eq_none (by omega), Array.getElem?_eq_none (by simp)]
/-- A matrix that came in. -/
theorem matrix_of_trod {H : Type} {enc : TypeId × Value → H} {w : World} {r : Reach} {b0 : Nat} {v : Value} {d : DataW H} {p : List MemPlace} (hv : Value.okWide Tryd.prog w r b0 27 v) (h : DataW.Trod enc Tryd.prog w 0 (fun _ => true) true 27 v d p) : ∃ m a, v = mV m a ∧ MIn w m a ∧ Mx.Wf m := by
  obtain ⟨fs, hs, hone, hC, hsz, hty⟩ := matFields
  obtain ⟨cs, rfl, hcs, hf⟩ := fields_of_trod hs hone hC hv h
  have fld : ∀ (i : Nat) (t : TypeId), (fs.toList.map (·.type))[i]? = some t → ∃ n y c, cs[i]? = some c ∧ DataW.trod enc Tryd.prog w 0 (fun _ => true) true n t [c] = some y := fun i t hi => by
    rw [List.getElem?_map] at hi
    obtain ⟨f, hfi, rfl⟩ := Option.map_eq_some_iff.1 hi
    exact hf i f (by simpa using hfi)
  rw [hty] at fld
  have int_ : ∀ i, ([3, 3, 3, 3, 3, 3, 3, 22, 23, 24, 25] : List TypeId)[i]? = some 3 → ∃ z : Int, cs[i]? = some (Value.int .i64 z) ∧ (Lit.int .i64 z).wf = true := fun i hi => by
    obtain ⟨n, y, c, h1, h2⟩ := fld i _ hi
    obtain ⟨z, hz, _, hw⟩ := DataW.trod_int Tryd.underlying3 h2
    obtain rfl := List.singleton_inj.1 hz
    exact ⟨z, h1, hw⟩
  obtain ⟨z0, e0, w0⟩ := int_ 0 rfl
  obtain ⟨z1, e1, w1⟩ := int_ 1 rfl
  obtain ⟨z2, e2, w2⟩ := int_ 2 rfl
  obtain ⟨z3, e3, w3⟩ := int_ 3 rfl
  obtain ⟨z4, e4, w4⟩ := int_ 4 rfl
  obtain ⟨z5, e5, w5⟩ := int_ 5 rfl
  obtain ⟨z6, e6, w6⟩ := int_ 6 rfl
  obtain ⟨n7, y7, c7, e7, t7⟩ := fld 7 22 rfl
  obtain ⟨z7, hz7, _, w7⟩ := DataW.trod_int Tryd.underlying22 t7
  obtain rfl := List.singleton_inj.1 hz7
  obtain ⟨Z7, rfl, hZ7⟩ := u32_natM w7
  obtain ⟨n8, y8, c8, e8, t8⟩ := fld 8 23 rfl
  obtain ⟨s8, l8, k8, rfl, t8'⟩ := slice_low Tryd.underlying23 t8
  obtain ⟨n9, y9, c9, e9, t9⟩ := fld 9 24 rfl
  obtain ⟨s9, l9, k9, rfl, t9'⟩ := slice_low Tryd.underlying24 t9
  obtain ⟨n10, y10, c10, e10, t10⟩ := fld 10 25 rfl
  obtain ⟨s10, l10, k10, rfl, t10'⟩ := slice_low Tryd.underlying25 t10
  obtain ⟨L8, q8, o8, i8⟩ := masters_of t8'
  obtain ⟨L9, q9, o9, i9⟩ := messages_of t9'
  obtain ⟨L10, q10, o10, i10⟩ := windows_of t10'
  subst q8 q9 q10
  refine ⟨⟨z0, z1, z2, z3, z4, z5, z6, Z7, L8, L9, L10⟩, ⟨s8, k8, s9, k9, s10, k10⟩, ?_, ⟨i8, i9, i10⟩, ⟨w0, w1, w2, w3, w4, w5, w6, hZ7, o8, o9, o10⟩⟩
  exact congrArg Value.agg (array11 (hcs.trans hsz) e0 e1 e2 e3 e4 e5 e6 e7 e8 e9 e10)
end Go.Proofs.YtnbfnipdiffphaaDoor
