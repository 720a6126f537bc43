/- A map from numbers to data, as its block holds it. -/
import Derived.Test.YtkgeknkppnadfaaQ18
import Derived.Test.YtkgeknkppnadfaaVv
import Derived.Maps.OwnOps
import Derived.Shelf.SlMaps.Clone
namespace Go.Proofs.Ytkgeknkppnadfaa.Q18
theorem get_put (l : Da) (k j : Int) (d : ByteArray) (hk : inn l.length k = true) : get (put l k d) j = if j = k then some d else get l j := by
  obtain ⟨h0, h1⟩ := inn_iff.1 hk
  obtain ⟨n, rfl⟩ : ∃ n : Nat, k = (n : Int) := ⟨k.toNat, by omega⟩
  have hn : n < l.length := by omega
  rw [put_nat hn]
  split
  · rename_i e
    subst e
    refine get_nat ?_
    rw [List.getElem?_set_self hn]
  · rename_i e
    unfold get
    rw [List.length_set]
    split
    · rename_i hj
      obtain ⟨j0, j1⟩ := inn_iff.1 hj
      rw [List.getElem?_set_ne (by omega)]
    · rfl
theorem get_inn {l : Da} {k : Int} {d : ByteArray} (h : get l k = some d) : inn l.length k = true := by
  unfold get at h
  split at h
  · assumption
  · cases h
theorem get_rep (n : Nat) (k : Int) : get (List.replicate n none) k = none := by
  unfold get
  split
  · cases e : (List.replicate n (none : Option ByteArray))[k.toNat]? with
    | none => rfl
    | some o =>
      have := List.mem_of_getElem? e
      rw [(List.mem_replicate.1 this).2]
      rfl
  · rfl
end Go.Proofs.Ytkgeknkppnadfaa.Q18
namespace Go.Proofs.Ytkgeknkppnadfaa.Mw
open Go.RowKit Go.Maps Go.MapKept Go.ChangeShapes Go.WideShapes
set_option linter.unusedVariables false
abbrev plV (d : ByteArray) : Value := .agg #[.string d]
def En (D : Q18.Da) (e : MapEntry) : Prop := ∃ k d, e.key = .int .i64 k ∧ (Lit.int .i64 k).wf = true ∧ e.val = plV d ∧ Q18.get D k = some d
def Is (w : World) (b : Nat) (D : Q18.Da) : Prop :=
  ∃ es clock, w.heap[b]? = some (.map es clock) ∧ es.toList.Pairwise (fun x y => x.key ≠ y.key) ∧ (∀ e ∈ es.toList, En D e) ∧ ∀ k d, Q18.get D k = some d → ∃ e ∈ es.toList, e.key = .int .i64 k
theorem Is.lt {w : World} {b : Nat} {D : Q18.Da} (h : Is w b D) : b < w.heap.size := by
  obtain ⟨es, c, hb, _⟩ := h
  exact (Array.getElem?_eq_some_iff.1 hb).1
theorem Is.same {w w' : World} {b : Nat} {D : Q18.Da} (h : Is w b D) (he : w'.heap[b]? = w.heap[b]?) : Is w' b D := by
  obtain ⟨es, c, hb, h⟩ := h
  exact ⟨es, c, he.trans hb, h⟩
theorem Is.row {w : World} {b : Nat} {D : Q18.Da} (h : Is w b D) {T : TypeId} {p : Nat} {cs : Array Value} (hr : RowT T w p cs) : b ≠ p := by
  rintro rfl
  obtain ⟨es, c, hb, h⟩ := h
  have hr' : w.heap[b]? = some (.cells cs T (0, 0)) := hr
  rw [hb] at hr'
  cases hr'
theorem Is.made (w : World) (n : Nat) : Is (w.alloc (.map #[] 0)) w.heap.size (List.replicate n none) :=
  ⟨#[], 0, heap_alloc_new w _, by simp, by simp, fun k d h => by rw [Q18.get_rep] at h; cases h⟩
theorem Is.clone {w : World} {b : Nat} {D : Q18.Da} (h : Is w b D) : ∃ es c, w.heap[b]? = some (.map es c) ∧ Is (w.alloc (.map es c)) w.heap.size D := by
  obtain ⟨es, c, hb, h⟩ := h
  exact ⟨es, c, hb, es, c, heap_alloc_new w _, h⟩
section
variable {P : Program} {kt et mt : TypeId} {w : World} {b : Nat} {D : Q18.Da}
theorem keys (ku : P.underlying kt = some (.int .i64)) {es : Array MapEntry} (hE : ∀ e ∈ es.toList, En D e) : ∀ e ∈ es.toList, ∃ l, keyOf P kt e.key = some l := fun e he => by
  obtain ⟨k, d, e1, e2, _⟩ := hE e he
  rw [e1]
  exact ⟨_, keyOf_int_mk ku e2⟩
theorem Is.lookG (ku : P.underlying kt = some (.int .i64)) (mu : P.underlying mt = some (.map kt et)) (zv : (zeroValue et).run P w = .ok (plV ByteArray.empty) w) (h : Is w b D) {k : Int} (hk : (Lit.int .i64 k).wf = true) : (Instr.lookup mt (.map (some b)) (.int .i64 k) true).run P w = .ok (.tuple #[plV ((Q18.get D k).getD ByteArray.empty), .bool (Q18.get D k).isSome]) w := by
  obtain ⟨es, c, hb, hd, hE, hC⟩ := h
  have ky : Keyed P kt := int_keyed ku
  have hkey := keyOf_int_mk ku hk
  rcases ky.find w hkey es.toList (keys ku hE) with ⟨h1, h2⟩ | ⟨j, e0, h1, h2, h3⟩
  · have hg : Q18.get D k = none := by
      cases e : Q18.get D k with
      | none => rfl
      | some d =>
        obtain ⟨x, hx, hxk⟩ := hC k d e
        exact absurd hxk (h2 x hx)
    rw [hg]
    simp [Instr.lookup, run_underlying mu, MapKept.run_getObj_map hb, ky.check w _ hkey, h1, zv, Result.andThen]
  · obtain ⟨k', d, e1, _, e3, e4⟩ := hE e0 (List.mem_of_getElem? h2)
    rw [h3] at e1
    injection e1 with _ e1
    subst e1
    rw [e4]
    simp [Instr.lookup, run_underlying mu, MapKept.run_getObj_map hb, ky.check w _ hkey, h1, e3, Result.andThen]
theorem kept_obj (w : World) (b : Nat) (o : Obj) : Kept (fun j => j = b) w { w with heap := w.heap.setIfInBounds b o } :=
  ⟨rfl, rfl, rfl, by simp, fun j _ hj => by simp only [Array.getElem?_setIfInBounds]; rw [if_neg (fun e => hj e.symm)]⟩
theorem Is.putG (ku : P.underlying kt = some (.int .i64)) (mu : P.underlying mt = some (.map kt et)) (h : Is w b D) {k : Int} (hk : (Lit.int .i64 k).wf = true) (hin : Q18.inn D.length k = true) (d : ByteArray) : ∃ w', (Instr.mapUpdate mt (.map (some b)) (.int .i64 k) (plV d)).run P w = .ok () w' ∧ Is w' b (Q18.put D k d) ∧ Kept (fun j => j = b) w w' := by
  have hlt := h.lt
  obtain ⟨es, c, hb, hd, hE, hC⟩ := h
  have ky : Keyed P kt := int_keyed ku
  have hkey := keyOf_int_mk ku hk
  have hnew : ∀ (es' : Array MapEntry) (c' : Nat), ({ w with heap := w.heap.setIfInBounds b (.map es' c') } : World).heap[b]? = some (.map es' c') := fun es' c' => by simp [Array.getElem?_setIfInBounds, hlt]
  have hold : ∀ e, En D e → e.key ≠ .int .i64 k → En (Q18.put D k d) e := by
    rintro e ⟨k', d', e1, e2, e3, e4⟩ hne
    refine ⟨k', d', e1, e2, e3, ?_⟩
    rw [Q18.get_put _ _ _ _ hin, if_neg (fun x => hne (by rw [e1, x])), e4]
  rcases ky.find w hkey es.toList (keys ku hE) with ⟨h1, h2⟩ | ⟨j, e0, h1, h2, h3⟩
  · refine ⟨{ w with heap := w.heap.setIfInBounds b (.map (es.push ⟨.int .i64 k, plV d, c⟩) (c + 1)) }, ?_, ⟨_, _, hnew _ _, ?_, ?_, ?_⟩, kept_obj _ _ _⟩
    · simp [Instr.mapUpdate, run_underlying mu, MapKept.run_getObj_map hb, ky.check w false hkey, h1, MapKept.run_setObj_map _ hb, Result.andThen]
    · rw [Array.toList_push, List.pairwise_append]
      refine ⟨hd, by simp, fun x hx y hy => ?_⟩
      rw [List.mem_singleton.1 hy]
      exact h2 x hx
    · intro e he
      rw [Array.toList_push] at he
      rcases List.mem_append.1 he with he | he
      · exact hold e (hE e he) (h2 e he)
      · rw [List.mem_singleton.1 he]
        exact ⟨k, d, rfl, hk, rfl, by rw [Q18.get_put _ _ _ _ hin, if_pos rfl]⟩
    · intro k' d' hg
      rw [Array.toList_push]
      rw [Q18.get_put _ _ _ _ hin] at hg
      by_cases e : k' = k
      · exact ⟨_, List.mem_append_right _ (List.mem_singleton.2 rfl), by rw [e]⟩
      · rw [if_neg e] at hg
        obtain ⟨x, hx, hxk⟩ := hC k' d' hg
        exact ⟨x, List.mem_append_left _ hx, hxk⟩
  · have hj : es[j]? = some e0 := by simpa using h2
    have hjl : j < es.toList.length := (List.getElem?_eq_some_iff.1 h2).1
    have hlist : (es.modify j (fun e' => { e' with key := .int .i64 k, val := plV d })).toList = es.toList.set j { e0 with key := .int .i64 k, val := plV d } := by rw [Array.toList_modify, ChangeMaps.modify_eq_set _ _ _ _ h2]
    refine ⟨{ w with heap := w.heap.setIfInBounds b (.map (es.modify j (fun e' => { e' with key := .int .i64 k, val := plV d })) c) }, ?_, ⟨_, _, hnew _ _, ?_, ?_, ?_⟩, kept_obj _ _ _⟩
    · simp [Instr.mapUpdate, run_underlying mu, MapKept.run_getObj_map hb, ky.check w false hkey, h1, hj, h3, ky.stays w hkey, MapKept.run_setObj_map _ hb, Result.andThen]
    all_goals rw [hlist]
    · rw [List.pairwise_iff_getElem] at hd ⊢
      intro x y hx hy hxy
      have hx' : x < es.toList.length := by simpa using hx
      have hy' : y < es.toList.length := by simpa using hy
      have e0k : es.toList[j].key = .int .i64 k := by rw [List.getElem?_eq_getElem hjl] at h2; injection h2 with h2; rw [h2]; exact h3
      rw [List.getElem_set, List.getElem_set]
      split
      · rename_i ex
        rw [if_neg (by omega)]
        have := hd x y hx' hy' hxy
        subst ex
        rw [e0k] at this
        exact this
      · split
        · rename_i ey
          have := hd x y hx' hy' hxy
          subst ey
          rw [e0k] at this
          exact this
        · exact hd x y hx' hy' hxy
    · intro e he
      obtain ⟨i, hi, rfl⟩ := List.getElem_of_mem he
      have hi' : i < es.toList.length := by simpa using hi
      rw [List.getElem_set]
      split
      · exact ⟨k, d, rfl, hk, rfl, by rw [Q18.get_put _ _ _ _ hin, if_pos rfl]⟩
      · rename_i hne
        refine hold _ (hE _ (List.getElem_mem _)) (fun e => ?_)
        rw [List.pairwise_iff_getElem] at hd
        have e0k : es.toList[j].key = .int .i64 k := by rw [List.getElem?_eq_getElem hjl] at h2; injection h2 with h2; rw [h2]; exact h3
        rcases Nat.lt_or_gt_of_ne hne with hlt' | hlt'
        · exact hd j i hjl hi' hlt' (e0k.trans e.symm)
        · exact hd i j hi' hjl hlt' (e.trans e0k.symm)
    · intro k' d' hg
      rw [Q18.get_put _ _ _ _ hin] at hg
      by_cases e : k' = k
      · exact ⟨_, List.mem_iff_getElem.2 ⟨j, by simpa using hjl, rfl⟩, by rw [List.getElem_set_self]; rw [e]⟩
      · rw [if_neg e] at hg
        obtain ⟨x, hx, hxk⟩ := hC k' d' hg
        obtain ⟨i, hi, rfl⟩ := List.getElem_of_mem hx
        refine ⟨es.toList[i], List.mem_iff_getElem.2 ⟨i, by simpa using hi, ?_⟩, hxk⟩
        rw [List.getElem_set_ne]
        rintro rfl
        rw [List.getElem?_eq_getElem hjl] at h2
        injection h2 with h2
        rw [h2, h3] at hxk
        injection hxk with _ hxk
        exact e hxk.symm
end
theorem ku : Try.prog.underlying 3 = some (.int .i64) := by kernel_rfl
theorem mu : Try.prog.underlying 69 = some (.map 3 77) := by kernel_rfl
theorem zv (w : World) : (zeroValue 77).run Try.prog w = .ok (plV ByteArray.empty) w := by kernel_rfl
section
variable {w : World} {b : Nat} {D : Q18.Da}
theorem Is.look (h : Is w b D) {k : Int} (hk : (Lit.int .i64 k).wf = true) : (Instr.lookup 69 (.map (some b)) (.int .i64 k) true).run Try.prog w = .ok (.tuple #[plV ((Q18.get D k).getD ByteArray.empty), .bool (Q18.get D k).isSome]) w := Is.lookG ku mu (zv w) h hk
theorem Is.put (h : Is w b D) {k : Int} (hk : (Lit.int .i64 k).wf = true) (hin : Q18.inn D.length k = true) (d : ByteArray) : ∃ w', (Instr.mapUpdate 69 (.map (some b)) (.int .i64 k) (plV d)).run Try.prog w = .ok () w' ∧ Is w' b (Q18.put D k d) ∧ Kept (fun j => j = b) w w' := Is.putG ku mu h hk hin d
end
section
variable {w : World} {b : Nat} {D : Q18.Da} {ops : Array Oper} {rest : List Oper} {o : Oper} {a : Act} {Q : Exit → Act → World → Prop}
theorem wp_look (hg : o.guard = none) (m x : Operand) (hop : o.op = Op.lookup 69 m x true) (b : Nat) (D : Q18.Da) (k : Int) (hm : a.eval m = .map (some b)) (hx : a.eval x = .int .i64 k) (h : Is w b D) (hk : (Lit.int .i64 k).wf = true)
    (hK : wpList Try.prog ops Q rest (a.put o.dst (.tuple #[plV ((Q18.get D k).getD ByteArray.empty), .bool (Q18.get D k).isSome])) w) : wpList Try.prog ops Q (o :: rest) a w := by
  refine wpList_plain hg fun K' hK' => ?_
  unfold Oper.wp
  simp [execOp, hop, hm, hx, h.look hk, Result.andThen]
  exact hK' _ _ hK
theorem wp_put (hg : o.guard = none) (m x v : Operand) (hop : o.op = Op.mapUpdate 69 m x v) (b : Nat) (D : Q18.Da) (k : Int) (d : ByteArray) (hm : a.eval m = .map (some b)) (hx : a.eval x = .int .i64 k) (hv : a.eval v = plV d) (h : Is w b D) (hk : (Lit.int .i64 k).wf = true) (hin : Q18.inn D.length k = true)
    (hK : ∀ w', Is w' b (Q18.put D k d) → Kept (fun j => j = b) w w' → wpList Try.prog ops Q rest (a.put o.dst undef) w') : wpList Try.prog ops Q (o :: rest) a w := by
  obtain ⟨w', hrun, h1, h2⟩ := h.put hk hin d
  refine wpList_plain hg fun K' hK' => ?_
  unfold Oper.wp
  simp [execOp, hop, hm, hx, hv, hrun, Result.andThen]
  exact hK' _ _ (hK w' h1 h2)
end
end Go.Proofs.Ytkgeknkppnadfaa.Mw
