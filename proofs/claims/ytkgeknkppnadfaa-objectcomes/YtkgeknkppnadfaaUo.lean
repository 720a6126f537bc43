/- A map from numbers to data, as its block holds it. -/
import Derived.Test.YtkgeknkppnadfaaQ18
import Derived.Test.YtkgeknkppnadfaaVv
import Derived.Maps.OwnOps
import Derived.Shelf.SlMaps.Clone
import Derived.Test.YtkgeknkppnadfaaXm
import Derived.Test.YtkgeknkppnadfaaA18
import Derived.BigQuiet
import Derived.WalkKit
import Derived.WalkSpells
namespace Go.Proofs.Ytkgeknkppnadfaa.Q18
theorem get_put (l : Da) (k j : Int) (d : ByteArray) (hk : inn l.length k = true) : get (put l k d) j = if j = k then some d else get l j := by
  obtain ⟨h0, h1⟩ := inn_iff.1 hk
  obtain ⟨n, rfl⟩ : ∃ n : Nat, k = (n : Int) := ⟨k.toNat, by omega⟩
  have hn : n < l.length := by omega
  rw [put_nat hn]
  split
  · rename_i e
    subst e
    refine get_nat ?_
    rw [List.getElem?_set_self hn]
  · rename_i e
    unfold get
    rw [List.length_set]
    split
    · rename_i hj
      obtain ⟨j0, j1⟩ := inn_iff.1 hj
      rw [List.getElem?_set_ne (by omega)]
    · rfl
theorem get_inn {l : Da} {k : Int} {d : ByteArray} (h : get l k = some d) : inn l.length k = true := by
  unfold get at h
  split at h
  · assumption
  · cases h
theorem get_rep (n : Nat) (k : Int) : get (List.replicate n none) k = none := by
  unfold get
  split
  · cases e : (List.replicate n (none : Option ByteArray))[k.toNat]? with
    | none => rfl
    | some o =>
      have := List.mem_of_getElem? e
      rw [(List.mem_replicate.1 this).2]
      rfl
  · rfl
end Go.Proofs.Ytkgeknkppnadfaa.Q18
namespace Go.Proofs.Ytkgeknkppnadfaa.Mw
open Go.RowKit Go.Maps Go.MapKept Go.ChangeShapes Go.WideShapes
set_option linter.unusedVariables false
abbrev plV (d : ByteArray) : Value := .agg #[.string d]
def En (D : Q18.Da) (e : MapEntry) : Prop := ∃ k d, e.key = .int .i64 k ∧ (Lit.int .i64 k).wf = true ∧ e.val = plV d ∧ Q18.get D k = some d
def Is (w : World) (b : Nat) (D : Q18.Da) : Prop :=
  ∃ es clock, w.heap[b]? = some (.map es clock) ∧ es.toList.Pairwise (fun x y => x.key ≠ y.key) ∧ (∀ e ∈ es.toList, En D e) ∧ ∀ k d, Q18.get D k = some d → ∃ e ∈ es.toList, e.key = .int .i64 k
theorem Is.lt {w : World} {b : Nat} {D : Q18.Da} (h : Is w b D) : b < w.heap.size := by
  obtain ⟨es, c, hb, _⟩ := h
  exact (Array.getElem?_eq_some_iff.1 hb).1
theorem Is.same {w w' : World} {b : Nat} {D : Q18.Da} (h : Is w b D) (he : w'.heap[b]? = w.heap[b]?) : Is w' b D := by
  obtain ⟨es, c, hb, h⟩ := h
  exact ⟨es, c, he.trans hb, h⟩
theorem Is.row {w : World} {b : Nat} {D : Q18.Da} (h : Is w b D) {T : TypeId} {p : Nat} {cs : Array Value} (hr : RowT T w p cs) : b ≠ p := by
  rintro rfl
  obtain ⟨es, c, hb, h⟩ := h
  have hr' : w.heap[b]? = some (.cells cs T (0, 0)) := hr
  rw [hb] at hr'
  cases hr'
theorem Is.made (w : World) (n : Nat) : Is (w.alloc (.map #[] 0)) w.heap.size (List.replicate n none) :=
  ⟨#[], 0, heap_alloc_new w _, by simp, by simp, fun k d h => by rw [Q18.get_rep] at h; cases h⟩
theorem Is.clone {w : World} {b : Nat} {D : Q18.Da} (h : Is w b D) : ∃ es c, w.heap[b]? = some (.map es c) ∧ Is (w.alloc (.map es c)) w.heap.size D := by
  obtain ⟨es, c, hb, h⟩ := h
  exact ⟨es, c, hb, es, c, heap_alloc_new w _, h⟩
section
variable {P : Program} {kt et mt : TypeId} {w : World} {b : Nat} {D : Q18.Da}
theorem keys (ku : P.underlying kt = some (.int .i64)) {es : Array MapEntry} (hE : ∀ e ∈ es.toList, En D e) : ∀ e ∈ es.toList, ∃ l, keyOf P kt e.key = some l := fun e he => by
  obtain ⟨k, d, e1, e2, _⟩ := hE e he
  rw [e1]
  exact ⟨_, keyOf_int_mk ku e2⟩
theorem Is.lookG (ku : P.underlying kt = some (.int .i64)) (mu : P.underlying mt = some (.map kt et)) (zv : (zeroValue et).run P w = .ok (plV ByteArray.empty) w) (h : Is w b D) {k : Int} (hk : (Lit.int .i64 k).wf = true) : (Instr.lookup mt (.map (some b)) (.int .i64 k) true).run P w = .ok (.tuple #[plV ((Q18.get D k).getD ByteArray.empty), .bool (Q18.get D k).isSome]) w := by
  obtain ⟨es, c, hb, hd, hE, hC⟩ := h
  have ky : Keyed P kt := int_keyed ku
  have hkey := keyOf_int_mk ku hk
  rcases ky.find w hkey es.toList (keys ku hE) with ⟨h1, h2⟩ | ⟨j, e0, h1, h2, h3⟩
  · have hg : Q18.get D k = none := by
      cases e : Q18.get D k with
      | none => rfl
      | some d =>
        obtain ⟨x, hx, hxk⟩ := hC k d e
        exact absurd hxk (h2 x hx)
    rw [hg]
    simp [Instr.lookup, run_underlying mu, MapKept.run_getObj_map hb, ky.check w _ hkey, h1, zv, Result.andThen]
  · obtain ⟨k', d, e1, _, e3, e4⟩ := hE e0 (List.mem_of_getElem? h2)
    rw [h3] at e1
    injection e1 with _ e1
    subst e1
    rw [e4]
    simp [Instr.lookup, run_underlying mu, MapKept.run_getObj_map hb, ky.check w _ hkey, h1, e3, Result.andThen]
theorem kept_obj (w : World) (b : Nat) (o : Obj) : Kept (fun j => j = b) w { w with heap := w.heap.setIfInBounds b o } :=
  ⟨rfl, rfl, rfl, by simp, fun j _ hj => by simp only [Array.getElem?_setIfInBounds]; rw [if_neg (fun e => hj e.symm)]⟩
theorem Is.putG (ku : P.underlying kt = some (.int .i64)) (mu : P.underlying mt = some (.map kt et)) (h : Is w b D) {k : Int} (hk : (Lit.int .i64 k).wf = true) (hin : Q18.inn D.length k = true) (d : ByteArray) : ∃ w', (Instr.mapUpdate mt (.map (some b)) (.int .i64 k) (plV d)).run P w = .ok () w' ∧ Is w' b (Q18.put D k d) ∧ Kept (fun j => j = b) w w' := by
  have hlt := h.lt
  obtain ⟨es, c, hb, hd, hE, hC⟩ := h
  have ky : Keyed P kt := int_keyed ku
  have hkey := keyOf_int_mk ku hk
  have hnew : ∀ (es' : Array MapEntry) (c' : Nat), ({ w with heap := w.heap.setIfInBounds b (.map es' c') } : World).heap[b]? = some (.map es' c') := fun es' c' => by simp [hlt]
  have hold : ∀ e, En D e → e.key ≠ .int .i64 k → En (Q18.put D k d) e := by
    rintro e ⟨k', d', e1, e2, e3, e4⟩ hne
    refine ⟨k', d', e1, e2, e3, ?_⟩
    rw [Q18.get_put _ _ _ _ hin, if_neg (fun x => hne (by rw [e1, x])), e4]
  rcases ky.find w hkey es.toList (keys ku hE) with ⟨h1, h2⟩ | ⟨j, e0, h1, h2, h3⟩
  · refine ⟨{ w with heap := w.heap.setIfInBounds b (.map (es.push ⟨.int .i64 k, plV d, c⟩) (c + 1)) }, ?_, ⟨_, _, hnew _ _, ?_, ?_, ?_⟩, kept_obj _ _ _⟩
    · simp [Instr.mapUpdate, run_underlying mu, MapKept.run_getObj_map hb, ky.check w false hkey, h1, MapKept.run_setObj_map _ hb, Result.andThen]
    · rw [Array.toList_push, List.pairwise_append]
      refine ⟨hd, by simp, fun x hx y hy => ?_⟩
      rw [List.mem_singleton.1 hy]
      exact h2 x hx
    · intro e he
      rw [Array.toList_push] at he
      rcases List.mem_append.1 he with he | he
      · exact hold e (hE e he) (h2 e he)
      · rw [List.mem_singleton.1 he]
        exact ⟨k, d, rfl, hk, rfl, by rw [Q18.get_put _ _ _ _ hin, if_pos rfl]⟩
    · intro k' d' hg
      rw [Array.toList_push]
      rw [Q18.get_put _ _ _ _ hin] at hg
      by_cases e : k' = k
      · exact ⟨_, List.mem_append_right _ (List.mem_singleton.2 rfl), by rw [e]⟩
      · rw [if_neg e] at hg
        obtain ⟨x, hx, hxk⟩ := hC k' d' hg
        exact ⟨x, List.mem_append_left _ hx, hxk⟩
  · have hj : es[j]? = some e0 := by simpa using h2
    have hjl : j < es.toList.length := (List.getElem?_eq_some_iff.1 h2).1
    have hlist : (es.modify j (fun e' => { e' with key := .int .i64 k, val := plV d })).toList = es.toList.set j { e0 with key := .int .i64 k, val := plV d } := by rw [Array.toList_modify, ChangeMaps.modify_eq_set _ _ _ _ h2]
    refine ⟨{ w with heap := w.heap.setIfInBounds b (.map (es.modify j (fun e' => { e' with key := .int .i64 k, val := plV d })) c) }, ?_, ⟨_, _, hnew _ _, ?_, ?_, ?_⟩, kept_obj _ _ _⟩
    · simp [Instr.mapUpdate, run_underlying mu, MapKept.run_getObj_map hb, ky.check w false hkey, h1, hj, h3, ky.stays w hkey, MapKept.run_setObj_map _ hb, Result.andThen]
    all_goals rw [hlist]
    · rw [List.pairwise_iff_getElem] at hd ⊢
      intro x y hx hy hxy
      have hx' : x < es.toList.length := by simpa using hx
      have hy' : y < es.toList.length := by simpa using hy
      have e0k : es.toList[j].key = .int .i64 k := by rw [List.getElem?_eq_getElem hjl] at h2; injection h2 with h2; rw [h2]; exact h3
      rw [List.getElem_set, List.getElem_set]
      split
      · rename_i ex
        rw [if_neg (by omega)]
        have := hd x y hx' hy' hxy
        subst ex
        rw [e0k] at this
        exact this
      · split
        · rename_i ey
          have := hd x y hx' hy' hxy
          subst ey
          rw [e0k] at this
          exact this
        · exact hd x y hx' hy' hxy
    · intro e he
      obtain ⟨i, hi, rfl⟩ := List.getElem_of_mem he
      have hi' : i < es.toList.length := by simpa using hi
      rw [List.getElem_set]
      split
      · exact ⟨k, d, rfl, hk, rfl, by rw [Q18.get_put _ _ _ _ hin, if_pos rfl]⟩
      · rename_i hne
        refine hold _ (hE _ (List.getElem_mem _)) (fun e => ?_)
        rw [List.pairwise_iff_getElem] at hd
        have e0k : es.toList[j].key = .int .i64 k := by rw [List.getElem?_eq_getElem hjl] at h2; injection h2 with h2; rw [h2]; exact h3
        rcases Nat.lt_or_gt_of_ne hne with hlt' | hlt'
        · exact hd j i hjl hi' hlt' (e0k.trans e.symm)
        · exact hd i j hi' hjl hlt' (e.trans e0k.symm)
    · intro k' d' hg
      rw [Q18.get_put _ _ _ _ hin] at hg
      by_cases e : k' = k
      · exact ⟨_, List.mem_iff_getElem.2 ⟨j, by simpa using hjl, rfl⟩, by rw [List.getElem_set_self]; rw [e]⟩
      · rw [if_neg e] at hg
        obtain ⟨x, hx, hxk⟩ := hC k' d' hg
        obtain ⟨i, hi, rfl⟩ := List.getElem_of_mem hx
        refine ⟨es.toList[i], List.mem_iff_getElem.2 ⟨i, by simpa using hi, ?_⟩, hxk⟩
        rw [List.getElem_set_ne]
        rintro rfl
        rw [List.getElem?_eq_getElem hjl] at h2
        injection h2 with h2
        rw [h2, h3] at hxk
        injection hxk with _ hxk
        exact e hxk.symm
end
theorem ku : Try.prog.underlying 3 = some (.int .i64) := by kernel_rfl
theorem mu : Try.prog.underlying 69 = some (.map 3 77) := by kernel_rfl
theorem zv (w : World) : (zeroValue 77).run Try.prog w = .ok (plV ByteArray.empty) w := by kernel_rfl
section
variable {w : World} {b : Nat} {D : Q18.Da}
theorem Is.look (h : Is w b D) {k : Int} (hk : (Lit.int .i64 k).wf = true) : (Instr.lookup 69 (.map (some b)) (.int .i64 k) true).run Try.prog w = .ok (.tuple #[plV ((Q18.get D k).getD ByteArray.empty), .bool (Q18.get D k).isSome]) w := Is.lookG ku mu (zv w) h hk
theorem Is.put (h : Is w b D) {k : Int} (hk : (Lit.int .i64 k).wf = true) (hin : Q18.inn D.length k = true) (d : ByteArray) : ∃ w', (Instr.mapUpdate 69 (.map (some b)) (.int .i64 k) (plV d)).run Try.prog w = .ok () w' ∧ Is w' b (Q18.put D k d) ∧ Kept (fun j => j = b) w w' := Is.putG ku mu h hk hin d
end
section
variable {w : World} {b : Nat} {D : Q18.Da} {ops : Array Oper} {rest : List Oper} {o : Oper} {a : Act} {Q : Exit → Act → World → Prop}
theorem wp_look (hg : o.guard = none) (m x : Operand) (hop : o.op = Op.lookup 69 m x true) (b : Nat) (D : Q18.Da) (k : Int) (hm : a.eval m = .map (some b)) (hx : a.eval x = .int .i64 k) (h : Is w b D) (hk : (Lit.int .i64 k).wf = true)
    (hK : wpList Try.prog ops Q rest (a.put o.dst (.tuple #[plV ((Q18.get D k).getD ByteArray.empty), .bool (Q18.get D k).isSome])) w) : wpList Try.prog ops Q (o :: rest) a w := by
  refine wpList_plain hg fun K' hK' => ?_
  unfold Oper.wp
  simp [execOp, hop, hm, hx, h.look hk, Result.andThen]
  exact hK' _ _ hK
theorem wp_put (hg : o.guard = none) (m x v : Operand) (hop : o.op = Op.mapUpdate 69 m x v) (b : Nat) (D : Q18.Da) (k : Int) (d : ByteArray) (hm : a.eval m = .map (some b)) (hx : a.eval x = .int .i64 k) (hv : a.eval v = plV d) (h : Is w b D) (hk : (Lit.int .i64 k).wf = true) (hin : Q18.inn D.length k = true)
    (hK : ∀ w', Is w' b (Q18.put D k d) → Kept (fun j => j = b) w w' → wpList Try.prog ops Q rest (a.put o.dst undef) w') : wpList Try.prog ops Q (o :: rest) a w := by
  obtain ⟨w', hrun, h1, h2⟩ := h.put hk hin d
  refine wpList_plain hg fun K' hK' => ?_
  unfold Oper.wp
  simp [execOp, hop, hm, hx, hv, hrun, Result.andThen]
  exact hK' _ _ (hK w' h1 h2)
end
end Go.Proofs.Ytkgeknkppnadfaa.Mw
/- Package object, landed: what lies where; is, isOwn, at, lay, maps.Clone. -/
namespace Go.Proofs.Ytkgeknkppnadfaa
open Go.RowKit Go.WideShapes
set_option linter.unusedVariables false
set_option maxRecDepth 100000
structure Ox (V w : World) (p : Nat) (s : Q18.St) (a : Option Addr) (c b1 b2 q : Nat) (H : Nat → Prop) : Prop where
  row : RowT 73 w p #[.int .i64 s.who, .slice a s.l.length c, .map (some b1), .map (some b2), Ob.ptr q]
  m1 : Mw.Is w b1 s.own
  m2 : Mw.Is w b2 s.came
  q : QueueAt w q H s.q
  ne : b1 ≠ b2
  apart : ∀ g, H g → g ≠ p ∧ g ≠ b1 ∧ g ≠ b2
  ok : Q18.Ok s
  msgs : LI V a c s.l.length (s.l.flatMap mC2)
def ObjectAt (V : World) : Ob.A Q18.St := fun w p F s => ∃ a c b1 b2 q H, (∀ g, F g ↔ g = p ∨ g = b1 ∨ g = b2 ∨ H g) ∧ Ox V w p s a c b1 b2 q H
section
variable {V w w' : World} {p : Nat} {s : Q18.St} {a : Option Addr} {c b1 b2 q : Nat} {H H' : Nat → Prop}
theorem Ox.same (h : Ox V w p s a c b1 b2 q H) (hk : ∀ g, g = p ∨ g = b1 ∨ g = b2 ∨ H g → w'.heap[g]? = w.heap[g]?) : Ox V w' p s a c b1 b2 q H :=
  ⟨(hk p (by simp)).trans h.row, h.m1.same (hk b1 (by simp)), h.m2.same (hk b2 (by simp)), queue_is.on h.q (fun g hg => hk g (by simp [hg])), h.ne, h.apart, h.ok, h.msgs⟩
theorem Ox.lt (h : Ox V w p s a c b1 b2 q H) (g : Nat) (hg : g = p ∨ g = b1 ∨ g = b2 ∨ H g) : g < w.heap.size := by
  rcases hg with rfl | rfl | rfl | hg
  · exact h.row.lt
  · exact h.m1.lt
  · exact h.m2.lt
  · exact queue_is.lt h.q g hg
theorem Ox.on (h : Ox V w p s a c b1 b2 q H) (hb : Below w.heap.size w w') : Ox V w' p s a c b1 b2 q H := h.same (fun g hg => hb.block g (h.lt g hg))
theorem Ox.np (h : Ox V w p s a c b1 b2 q H) : b1 ≠ p ∧ b2 ≠ p := ⟨h.m1.row h.row, h.m2.row h.row⟩
theorem Ox.at_ (h : Ox V w p s a c b1 b2 q H) : ObjectAt V w p (fun g => g = p ∨ g = b1 ∨ g = b2 ∨ H g) s := ⟨a, c, b1, b2, q, H, fun g => Iff.rfl, h⟩
/-- The queue has turned. -/
theorem Ox.queue (h : Ox V w p s a c b1 b2 q H) {t : Vq.St} (hq : QueueAt w' q H' t) (hs : ∀ g, H' g → H g ∨ w.heap.size ≤ g) (hk : Kept H w w') : Ox V w' p { s with q := t } a c b1 b2 q H' := by
  have hn : ¬ H p ∧ ¬ H b1 ∧ ¬ H b2 := ⟨fun e => (h.apart _ e).1 rfl, fun e => (h.apart _ e).2.1 rfl, fun e => (h.apart _ e).2.2 rfl⟩
  refine ⟨(hk.block _ h.row.lt hn.1).trans h.row, h.m1.same (hk.block _ h.m1.lt hn.2.1), h.m2.same (hk.block _ h.m2.lt hn.2.2), hq, h.ne, fun g hg => ?_, ⟨h.ok.n, h.ok.own, h.ok.came, queueSpec.ok hq⟩, h.msgs⟩
  rcases hs g hg with hg | hg
  · exact h.apart g hg
  · have := h.row.lt; have := h.m1.lt; have := h.m2.lt; omega
/-- A map has turned. -/
theorem Ox.own (h : Ox V w p s a c b1 b2 q H) {k : Int} {d : ByteArray} (hm : Mw.Is w' b1 (Q18.put s.own k d)) (hk : Kept (fun j => j = b1) w w') : Ox V w' p { s with own := Q18.put s.own k d } a c b1 b2 q H :=
  ⟨(hk.block _ h.row.lt (fun e => h.np.1 e.symm)).trans h.row, hm, h.m2.same (hk.block _ h.m2.lt (fun e => h.ne e.symm)), queue_is.on h.q (fun g hg => hk.block g (queue_is.lt h.q g hg) (h.apart g hg).2.1), h.ne, h.apart, ⟨h.ok.n, (Q18.len_put _ _ _).trans h.ok.own, h.ok.came, h.ok.q⟩, h.msgs⟩
theorem Ox.came (h : Ox V w p s a c b1 b2 q H) {k : Int} {d : ByteArray} (hm : Mw.Is w' b2 (Q18.put s.came k d)) (hk : Kept (fun j => j = b2) w w') : Ox V w' p { s with came := Q18.put s.came k d } a c b1 b2 q H :=
  ⟨(hk.block _ h.row.lt (fun e => h.np.2 e.symm)).trans h.row, h.m1.same (hk.block _ h.m1.lt h.ne), hm, queue_is.on h.q (fun g hg => hk.block g (queue_is.lt h.q g hg) (h.apart g hg).2.2), h.ne, h.apart, ⟨h.ok.n, h.ok.own, (Q18.len_put _ _ _).trans h.ok.came, h.ok.q⟩, h.msgs⟩
end
theorem objectIs (V : World) : Ob.Is (ObjectAt V) where
  on := fun {w w' p F s} ⟨a, c, b1, b2, q, H, hF, h⟩ hk => ⟨a, c, b1, b2, q, H, hF, h.same (fun g hg => hk g ((hF g).2 hg))⟩
  lt := fun {w p F s} ⟨a, c, b1, b2, q, H, hF, h⟩ g hg => h.lt g ((hF g).1 hg)
theorem ms_at {w : World} {a : Option Addr} {c : Nat} {l : List Mx.Msg} (h : LI w a c l.length (l.flatMap mC2)) {i : Nat} {x : Mx.Msg} (hx : l[i]? = some x) : ∃ g o, a = some ⟨g, o, none⟩ ∧ w.cell? ⟨g, o + i * 3 + 1, none⟩ = some (.int .i64 x.owner) ∧ w.cell? ⟨g, o + i * 3 + 2, none⟩ = some (.bool x.event) := by
  obtain ⟨g, o, hs, hg, hc⟩ := h.at (sz := 3) (fun _ => rfl) i x hx
  refine ⟨g, o, hs, ?_, ?_⟩
  · have := hc 1 _ rfl; rwa [← Nat.add_assoc] at this
  · have := hc 2 _ rfl; rwa [← Nat.add_assoc] at this
def Q18.own? (s : Q18.St) (k : Int) : Bool := match Q18.msgAt s k with
  | none => false
  | some x => x.owner == s.who
set_option maxHeartbeats 4000000 in
theorem oj_is (w : World) (p n c : Nat) (a : Option Addr) (v0 v2 v3 v4 : Value) (k : Int) (h : RowT 73 w p #[v0, .slice a n c, v2, v3, v4]) : Calls Try.prog 37 #[Ob.ptr p, .int .i64 k] w fun e w' => e = .returned (.bool (Q18.inn n k)) ∧ w' = w := by
  have c1 : w.cell? ⟨p, 1, none⟩ = some (.slice a n c) := h.c 1 _ rfl
  clear h
  by_cases h0 : 0 ≤ k
  · have d0 : decide (0 ≤ k) = true := decide_eq_true h0
    have e : Q18.inn n k = decide (k < (n : Int)) := by unfold Q18.inn; rw [d0]; rfl
    rw [e]
    clear e
    go_enter Try.func37, Try.ntmps37
    go_wp2
    go_ret
    exact ⟨rfl, rfl⟩
  · have d0 : decide (0 ≤ k) = false := decide_eq_false h0
    have e : Q18.inn n k = false := by unfold Q18.inn; rw [d0]; rfl
    rw [e]
    clear e
    go_enter Try.func37, Try.ntmps37
    go_wp2
    go_ret
    exact ⟨rfl, rfl⟩
set_option maxHeartbeats 4000000 in
theorem oj_own (w : World) (p c : Nat) (a : Option Addr) (v2 v3 v4 : Value) (s : Q18.St) (k : Int) (h : RowT 73 w p #[.int .i64 s.who, .slice a s.l.length c, v2, v3, v4]) (hl : LI w a c s.l.length (s.l.flatMap mC2)) : Calls Try.prog 29 #[Ob.ptr p, .int .i64 k] w fun e w' => e = .returned (.bool (Q18.own? s k)) ∧ Below w.heap.size w w' := by
  have HI : Hid (∀ w', Below w.heap.size w w' → Calls Try.prog 37 #[Ob.ptr p, .int .i64 k] w' fun e w'' => e = .returned (.bool (Q18.inn s.l.length k)) ∧ w'' = w') := fun w' hb => oj_is w' p _ c a _ _ _ _ k (h.on hb)
  have c0 : w.cell? ⟨p, 0, none⟩ = some (.int .i64 s.who) := h.c 0 _ rfl
  have c1 : w.cell? ⟨p, 1, none⟩ = some (.slice a s.l.length c) := h.c 1 _ rfl
  clear h
  by_cases hin : 0 ≤ k ∧ k < (s.l.length : Int)
  · obtain ⟨n, rfl⟩ : ∃ n : Nat, k = (n : Int) := ⟨k.toNat, by omega⟩
    have hn : n < s.l.length := by omega
    obtain ⟨g, o, rfl, m1, m2⟩ := ms_at hl (List.getElem?_eq_getElem hn)
    have e : Q18.own? s (n : Int) = (s.l[n].owner == s.who) := by unfold Q18.own?; rw [Q18.msg_nat, List.getElem?_eq_getElem hn]
    rw [e]
    rw [Q18.inn_iff.2 hin] at HI
    generalize s.l[n].owner = ow at m1 ⊢
    generalize s.who = wh at c0 ⊢
    clear e hin hl m2
    generalize s.l.length = N at c1 hn HI
    have hni : (n : Int) < (N : Int) := by omega
    go_enter Try.func29, Try.ntmps29
    go_wp2_with fail
    go_quiet (first | (go_at_call 37; exact Calls.quiet_of_same (HI.out _ (below_drewN (Below.refl _ _) _))) | fail)
    go_wp2
    go_ret
    exact ⟨rfl, below_drewN (Below.refl _ _) _⟩
  · have e : Q18.own? s k = false := by unfold Q18.own?; rw [Q18.msg_no hin]
    rw [e]
    rw [Q18.inn_no hin] at HI
    clear e hl hin
    generalize s.l.length = N at c1 HI
    generalize s.who = wh at c0
    go_enter Try.func29, Try.ntmps29
    go_wp2_with fail
    go_quiet (first | (go_at_call 37; exact Calls.quiet_of_same (HI.out _ (below_drewN (Below.refl _ _) _))) | fail)
    go_wp2
    go_ret
    exact ⟨rfl, below_drewN (Below.refl _ _) _⟩
set_option maxHeartbeats 4000000 in
theorem oj_lay (w : World) (b : Nat) (D : Q18.Da) (k : Int) (d : ByteArray) (h : Mw.Is w b D) (hk : (Lit.int .i64 k).wf = true) (hin : Q18.inn D.length k = true) : Calls Try.prog 31 #[.map (some b), .int .i64 k, .string d] w fun e w' => e = .returned (.tuple #[]) ∧ Mw.Is w' b (Q18.put D k d) ∧ Kept (fun j => j = b) w w' := by
  have HM : Hid (Mw.Is w b D) := h
  clear h
  go_enter Try.func31, Try.ntmps31
  go_wp2_with (at_mapUpdate; refine Mw.wp_put rfl _ _ _ rfl b D k d rfl rfl rfl HM.out hk hin ?_; intro w1 hm1 hk1)
  go_wp2
  go_end0
  exact ⟨rfl, hm1, hk1⟩
set_option maxHeartbeats 4000000 in
theorem oj_at (w : World) (b : Nat) (D : Q18.Da) (k : Int) (h : Mw.Is w b D) (hk : (Lit.int .i64 k).wf = true) : Calls Try.prog 39 #[.map (some b), .int .i64 k] w fun e w' => e = .returned (.tuple #[.string ((Q18.get D k).getD ByteArray.empty), .bool (Q18.get D k).isSome]) ∧ Below w.heap.size w w' := by
  have HM : Hid (Mw.Is w b D) := h
  clear h
  go_enter Try.func39, Try.ntmps39
  go_wp2_with (at_lookup; refine Mw.wp_look rfl _ _ rfl b D k rfl rfl HM.out hk ?_)
  go_wp2
  go_ret2
  exact ⟨rfl, by first | exact ((Below.refl _ _).alloc (Nat.le_refl _) _).setCell (Nat.le_refl _) _ | exact (Below.refl _ _).alloc (Nat.le_refl _) _⟩
set_option maxHeartbeats 4000000 in
theorem oj_clone (w : World) (b : Nat) (D : Q18.Da) (h : Mw.Is w b D) : Calls Try.prog 27 #[.map (some b)] w fun e w' => e = .returned (.map (some w.heap.size)) ∧ Mw.Is w' w.heap.size D ∧ Below w.heap.size w w' := by
  obtain ⟨es, c, hb, h1⟩ := h.clone
  have hq := fun w => run_eql_map_nil_sl (P := Try.prog) w 69 _ _ (some b) Mw.mu
  have HZ : Hid (Mw.Is (w.alloc (.map es c)) w.heap.size D) := h1
  clear h h1
  go_enter Try.func27, Try.ntmps27
  go_wp2
  rw [run_callFunc_extern Try.func44 (by kernel_rfl) (by kernel_rfl) (by kernel_rfl) (e := Extern.MapsClone.clone) (by kernel_rfl), run_maps_clone_sl w 69 hb]
  simp only [Result.andThen]
  rw [Oper.upon_value]
  go_wp2
  rw [run_typeAssert_map_sl _ 69 _ _ _ _ Mw.mu]
  simp only [Result.andThen]
  rw [Oper.upon_value]
  go_wp2
  go_ret
  exact ⟨rfl, HZ.out, (Below.refl _ _).alloc (Nat.le_refl _) _⟩
end Go.Proofs.Ytkgeknkppnadfaa
/- Package object, landed: what tells or lays one thing. -/
namespace Go.Proofs.Ytkgeknkppnadfaa
open Go.RowKit Go.WideShapes
set_option linter.unusedVariables false
set_option maxRecDepth 100000
theorem Ox.cells {V w : World} {p : Nat} {s : Q18.St} {a : Option Addr} {c b1 b2 q : Nat} {H : Nat → Prop} (h : Ox V w p s a c b1 b2 q H) : w.cell? ⟨p, 0, none⟩ = some (.int .i64 s.who) ∧ w.cell? ⟨p, 1, none⟩ = some (.slice a s.l.length c) ∧ w.cell? ⟨p, 2, none⟩ = some (.map (some b1)) ∧ w.cell? ⟨p, 3, none⟩ = some (.map (some b2)) ∧ w.cell? ⟨p, 4, none⟩ = some (Ob.ptr q) :=
  ⟨h.row.c 0 _ rfl, h.row.c 1 _ rfl, h.row.c 2 _ rfl, h.row.c 3 _ rfl, h.row.c 4 _ rfl⟩
def Oz (V W w : World) (p : Nat) (F : Nat → Prop) (s : Q18.St) : Prop := ∃ F', ObjectAt V w p F' s ∧ (∀ g, F' g → F g ∨ W.heap.size ≤ g) ∧ Kept F W w
section
variable {V W w w' : World} {p : Nat} {F : Nat → Prop} {s : Q18.St} {a : Option Addr} {c b1 b2 q : Nat} {H H' : Nat → Prop}
theorem Ox.z (h : Ox V w p s a c b1 b2 q H) (hF : ∀ g, F g ↔ g = p ∨ g = b1 ∨ g = b2 ∨ H g) (hb : Below w.heap.size w w') : Oz V w w' p F s :=
  ⟨F, ⟨a, c, b1, b2, q, H, hF, h.on hb⟩, fun g hg => Or.inl hg, Kept.of_below hb⟩
theorem Ox.zq (h : Ox V w p s a c b1 b2 q H) (hF : ∀ g, F g ↔ g = p ∨ g = b1 ∨ g = b2 ∨ H g) {t : Vq.St} (hq : QueueAt w' q H' t) (hs : ∀ g, H' g → H g ∨ w.heap.size ≤ g) (hk : Kept H w w') : Oz V w w' p F { s with q := t } := by
  refine ⟨_, (h.queue hq hs hk).at_, fun g hg => ?_, hk.mono (fun g hg => (hF g).2 (by simp [hg]))⟩
  rcases hg with hg | hg | hg | hg
  · exact Or.inl ((hF g).2 (by simp [hg]))
  · exact Or.inl ((hF g).2 (by simp [hg]))
  · exact Or.inl ((hF g).2 (by simp [hg]))
  · exact (hs g hg).imp (fun h => (hF g).2 (by simp [h])) id
theorem Ox.zown (h : Ox V w p s a c b1 b2 q H) (hF : ∀ g, F g ↔ g = p ∨ g = b1 ∨ g = b2 ∨ H g) {k : Int} {d : ByteArray} (hm : Mw.Is w' b1 (Q18.put s.own k d)) (hk : Kept (fun j => j = b1) w w') : Oz V w w' p F { s with own := Q18.put s.own k d } :=
  ⟨F, ⟨a, c, b1, b2, q, H, hF, h.own hm hk⟩, fun g hg => Or.inl hg, hk.mono (fun g hg => (hF g).2 (by simp [hg]))⟩
theorem Ox.zcame (h : Ox V w p s a c b1 b2 q H) (hF : ∀ g, F g ↔ g = p ∨ g = b1 ∨ g = b2 ∨ H g) {k : Int} {d : ByteArray} (hm : Mw.Is w' b2 (Q18.put s.came k d)) (hk : Kept (fun j => j = b2) w w') : Oz V w w' p F { s with came := Q18.put s.came k d } :=
  ⟨F, ⟨a, c, b1, b2, q, H, hF, h.came hm hk⟩, fun g hg => Or.inl hg, hk.mono (fun g hg => (hF g).2 (by simp [hg]))⟩
/-- From a world behind one that only grew. -/
theorem Oz.from (h : Oz V w w' p F s) (hb : Below W.heap.size W w) : Oz V W w' p F s := by
  obtain ⟨F', h1, h2, h3⟩ := h
  exact ⟨F', h1, fun g hg => (h2 g hg).imp id (Nat.le_trans hb.size), (Kept.of_below hb).trans h3 (fun g hg => Or.inl hg)⟩
end
set_option maxHeartbeats 4000000 in
theorem oj_state (V w : World) (p : Nat) (F : Nat → Prop) (s : Q18.St) (k : Int) (hk : (Lit.int .i64 k).wf = true) (h : ObjectAt V w p F s) : Ob.Turns Try.prog (ObjectAt V) 19 #[Ob.ptr p, .int .i64 k] w p F s (.tuple #[.string ((Q18.get s.own k).getD ByteArray.empty), .bool (Q18.get s.own k).isSome]) := by
  obtain ⟨a, c, b1, b2, q, H, hF, hx⟩ := h
  have HZ : Hid (∀ w', Below w.heap.size w w' → Oz V w w' p F s) := fun w' hb => hx.z hF hb
  have HA := oj_at w b1 s.own k hx.m1 hk
  obtain ⟨c0, c1, c2, c3, c4⟩ := hx.cells
  generalize Q18.get s.own k = o at HA ⊢
  clear hF hx hk c0 c1 c3 c4
  unfold Ob.Turns
  go_enter Try.func19, Try.ntmps19
  go_wp2_with (go_at_call 39; refine HA.mono ?_; rintro e w1 ⟨rfl, hb⟩)
  go_ret2
  exact ⟨rfl, HZ.out _ hb⟩
set_option maxHeartbeats 4000000 in
theorem oj_read (V w : World) (p : Nat) (F : Nat → Prop) (s : Q18.St) (k : Int) (hk : (Lit.int .i64 k).wf = true) (h : ObjectAt V w p F s) : Ob.Turns Try.prog (ObjectAt V) 21 #[Ob.ptr p, .int .i64 k] w p F s (.tuple #[.string ((Q18.get s.came k).getD ByteArray.empty), .bool (Q18.get s.came k).isSome]) := by
  obtain ⟨a, c, b1, b2, q, H, hF, hx⟩ := h
  have HZ : Hid (∀ w', Below w.heap.size w w' → Oz V w w' p F s) := fun w' hb => hx.z hF hb
  have HA := oj_at w b2 s.came k hx.m2 hk
  obtain ⟨c0, c1, c2, c3, c4⟩ := hx.cells
  generalize Q18.get s.came k = o at HA ⊢
  clear hF hx hk c0 c1 c2 c4
  unfold Ob.Turns
  go_enter Try.func21, Try.ntmps21
  go_wp2_with (go_at_call 39; refine HA.mono ?_; rintro e w1 ⟨rfl, hb⟩)
  go_ret2
  exact ⟨rfl, HZ.out _ hb⟩
set_option maxHeartbeats 4000000 in
theorem oj_waiting (V w : World) (p : Nat) (F : Nat → Prop) (s : Q18.St) (h : ObjectAt V w p F s) : Ob.Turns Try.prog (ObjectAt V) 18 #[Ob.ptr p] w p F s (.int .i64 (s.q.l.length : Int)) := by
  obtain ⟨a, c, b1, b2, q, H, hF, hx⟩ := h
  have HZ : Hid (∀ w' H', QueueAt w' q H' s.q → (∀ g, H' g → H g ∨ w.heap.size ≤ g) → Kept H w w' → Oz V w w' p F s) := fun w' H' h1 h2 h3 => hx.zq hF h1 h2 h3
  have HA := qk_len w q H s.q hx.q
  obtain ⟨c0, c1, c2, c3, c4⟩ := hx.cells
  clear hF hx c0 c1 c2 c3
  unfold Ob.Turns at HA ⊢
  go_enter Try.func18, Try.ntmps18
  go_wp2_with (go_at_call 38; refine HA.mono ?_; rintro e w1 ⟨rfl, H', h1, h2, h3⟩)
  go_ret
  exact ⟨rfl, HZ.out _ _ h1 h2 h3⟩
set_option maxHeartbeats 4000000 in
theorem oj_got (V w : World) (p : Nat) (F : Nat → Prop) (s : Q18.St) (k : Int) (d : ByteArray) (hk : (Lit.int .i64 k).wf = true) (h : ObjectAt V w p F s) : Ob.Turns Try.prog (ObjectAt V) 15 #[Ob.ptr p, .int .i64 k, .string d] w p F (Q18.gotS s k d) (.tuple #[]) := by
  obtain ⟨a, c, b1, b2, q, H, hF, hx⟩ := h
  have HI : Hid (Calls Try.prog 37 #[Ob.ptr p, .int .i64 k] w fun e w' => e = .returned (.bool (Q18.inn s.l.length k)) ∧ w' = w) := oj_is w p _ c a _ _ _ _ k hx.row
  have el : s.came.length = s.l.length := hx.ok.came
  obtain ⟨c0, c1, c2, c3, c4⟩ := hx.cells
  unfold Ob.Turns Q18.gotS
  cases hin : Q18.inn s.l.length k with
  | true =>
    have HZ : Hid (∀ w', Mw.Is w' b2 (Q18.put s.came k d) → Kept (fun j => j = b2) w w' → Oz V w w' p F { s with came := Q18.put s.came k d }) := fun w' h1 h2 => hx.zcame hF h1 h2
    have HA := oj_lay w b2 s.came k d hx.m2 hk (by rw [el]; exact hin)
    rw [hin] at HI
    clear hF hx hk hin el c0 c1 c2 c4
    go_enter Try.func15, Try.ntmps15
    go_wp2_with fail
    refine HI.out.mono ?_
    rintro e w1 ⟨rfl, rfl⟩
    go_wp2_with (go_at_call 31; refine HA.mono ?_; rintro e w2 ⟨rfl, h1, h2⟩)
    go_end0
    exact ⟨rfl, HZ.out _ h1 h2⟩
  | false =>
    have e : Q18.put s.came k d = s.came := by unfold Q18.put; rw [el, hin]; rfl
    have HZ : Hid (Oz V w w p F { s with came := Q18.put s.came k d }) := by rw [e]; exact hx.z hF (Below.refl _ _)
    rw [hin] at HI
    clear hF hx hk hin el c0 c1 c2 c3 c4 e
    go_enter Try.func15, Try.ntmps15
    go_wp2_with fail
    refine HI.out.mono ?_
    rintro e w1 ⟨rfl, rfl⟩
    go_wp2
    go_end0
    exact ⟨rfl, HZ.out⟩
end Go.Proofs.Ytkgeknkppnadfaa
/- Package object, landed: Event, Send. -/
namespace Go.Proofs.Ytkgeknkppnadfaa
open Go.RowKit Go.WideShapes
set_option linter.unusedVariables false
set_option maxRecDepth 100000
section
variable {V w w' : World} {p : Nat} {F : Nat → Prop} {s s' : Q18.St} {a : Option Addr} {c b1 b2 q : Nat} {H H' : Nat → Prop}
theorem Ox.fin (h : Ox V w' p s' a c b1 b2 q H') (hF : ∀ g, F g ↔ g = p ∨ g = b1 ∨ g = b2 ∨ H g) (hs : ∀ g, H' g → H g ∨ w.heap.size ≤ g) (hk : Kept F w w') : Oz V w w' p F s' := by
  refine ⟨_, h.at_, fun g hg => ?_, hk⟩
  rcases hg with hg | hg | hg | hg
  · exact Or.inl ((hF g).2 (by simp [hg]))
  · exact Or.inl ((hF g).2 (by simp [hg]))
  · exact Or.inl ((hF g).2 (by simp [hg]))
  · exact (hs g hg).imp (fun h => (hF g).2 (by simp [h])) id
theorem Ox.zrow {v w1 : World} {g : Nat} (h : Ox V w p s a c b1 b2 q H) (hF : ∀ g, F g ↔ g = p ∨ g = b1 ∨ g = b2 ∨ H g) (hg : w.heap.size = g) (hb : Below w.heap.size w v) (hv : g < v.heap.size) (hq : QueueAt w1 q H' s.q) (hs : ∀ x, H' x → H x ∨ v.heap.size ≤ x) (hk : Kept H v w1) (cs : Array Value) : Oz V w (w1.setRow g cs) p F s := by
  have h1 : Ox V w1 p s a c b1 b2 q H' := (h.on hb).queue hq hs hk
  have h2 : Ox V (w1.setRow g cs) p s a c b1 b2 q H' := h1.same (fun x hx => setRow_other w1 g x cs (fun e => by
    rcases hx with hx | hx | hx | hx
    · have := h.lt x (by simp [hx]); omega
    · have := h.lt x (by simp [hx]); omega
    · have := h.lt x (by simp [hx]); omega
    · rcases hs x hx with hx | hx
      · have := h.lt x (by simp [hx]); omega
      · omega))
  refine h2.fin hF (fun x hx => (hs x hx).imp id (Nat.le_trans hb.size)) (Kept.setRowNew ((Kept.of_below hb).trans hk (fun x hx => Or.inl ((hF x).2 (by simp [hx])))) (Nat.le_of_eq hg) _)
end
set_option maxHeartbeats 4000000 in
theorem oj_event (V w : World) (p : Nat) (F : Nat → Prop) (s : Q18.St) (h : ObjectAt V w p F s) : Ob.Turns Try.prog (ObjectAt V) 17 #[Ob.ptr p] w p F s (.tuple #[dV (Vq.hd s.q), .bool (decide (0 < s.q.l.length))]) := by
  obtain ⟨a, c, b1, b2, q, H, hF, hx⟩ := h
  have hb0 : Below w.heap.size w (w.alloc (.cells #[.int .i64 0, .string ⟨#[]⟩] 43)) := (Below.refl _ _).alloc (Nat.le_refl _) _
  have HX : Hid (Ox V (w.alloc (.cells #[.int .i64 0, .string ⟨#[]⟩] 43)) p s a c b1 b2 q H) := hx.on hb0
  have HR : Hid (RowT 43 (w.alloc (.cells #[.int .i64 0, .string ⟨#[]⟩] 43)) w.heap.size #[.int .i64 0, .string ⟨#[]⟩]) := RowT.new _ _ _
  have HZ : Hid (∀ w1 H' cs, QueueAt w1 q H' s.q → (∀ x, H' x → H x ∨ (w.alloc (.cells #[.int .i64 0, .string ⟨#[]⟩] 43)).heap.size ≤ x) → Kept H (w.alloc (.cells #[.int .i64 0, .string ⟨#[]⟩] 43)) w1 → Oz V w (w1.setRow w.heap.size cs) p F s) := fun w1 H' cs h1 h2 h3 => hx.zrow hF rfl hb0 (by simp) h1 h2 h3 cs
  have HN : Hid (∀ x, H x → x ≠ w.heap.size) := fun x hx' e => by have := hx.lt x (by simp [hx']); omega
  have HA : Hid (Ob.Turns Try.prog QueueAt 34 #[Ob.ptr q] (w.alloc (.cells #[.int .i64 0, .string ⟨#[]⟩] 43)) q H s.q (.tuple #[dV (Vq.hd s.q), .bool (decide (0 < s.q.l.length))])) := qk_head _ q H s.q (hx.on hb0).q
  clear hF hx hb0
  unfold Ob.Turns at HA ⊢
  show Calls _ _ _ _ (fun e w' => e = _ ∧ Oz V w w' p F s)
  generalize Vq.hd s.q = dd at HA ⊢
  generalize decide (0 < s.q.l.length) = bb at HA ⊢
  obtain ⟨dm, dt⟩ := dd
  go_enter Try.func17, Try.ntmps17
  go_upto_region 1 with fail
  generalize w.alloc (.cells #[.int .i64 0, .string ⟨#[]⟩] 43) = v at HX HR HZ HA ⊢
  generalize w.heap.size = g at HR HZ HN ⊢
  obtain ⟨c0, c1, c2, c3, c4⟩ := HX.out.cells
  clear HX c0 c1 c2 c3
  go_wp2_with (first | (go_at_call 34; refine HA.out.mono ?_; rintro e w1 ⟨rfl, H', h1, h2, h3⟩; have HR1 : Hid (RowT 43 w1 g #[.int .i64 0, .string ⟨#[]⟩]) := HR.out.kept h3 (fun e => HN.out _ e rfl)) | (refine wpList_store_row (P := Try.prog) rfl 43 (.tmp 2) (.tmp 9) rfl g #[.int .i64 dm, .string dt] rfl rfl 43 _ HR1.out dinfo rfl (by simp [Value.oneCell']) ?_))
  have HRz : Hid (RowT 43 (w1.setRow g #[.int .i64 dm, .string dt]) g #[.int .i64 dm, .string dt]) := setRow_heap w1 _ _ _ _ _ HR1.out
  have HE := HZ.out w1 H' #[.int .i64 dm, .string dt] h1 h2 h3
  clear HZ HR1 h1 h2 h3
  generalize w1.setRow g #[.int .i64 dm, .string dt] = wz at HRz HE ⊢
  have z0 := HRz.out.c 0 _ rfl
  have z1 := HRz.out.c 1 _ rfl
  exact bodyPost_ret (v := .tuple #[dV ⟨dm, dt⟩, .bool bb]) (by simp [results, Try.results17, go_sem, z0, z1]) rfl ⟨rfl, HE⟩
theorem Q18.own_no {s : Q18.St} {k : Int} (d : ByteArray) (h : Q18.own? s k = false) : Q18.sendE s k d = 145 ∧ Q18.sendS s k d = s := by
  unfold Q18.own? at h
  unfold Q18.sendE Q18.sendS
  cases e : Q18.msgAt s k with
  | none => exact ⟨rfl, rfl⟩
  | some x =>
    rw [e] at h
    dsimp only at h ⊢
    have hn : ¬ x.owner = s.who := fun e => by rw [e] at h; simp at h
    rw [if_neg hn, if_neg hn]
    exact ⟨rfl, rfl⟩
theorem Q18.own_yes {s : Q18.St} {k : Int} (d : ByteArray) (h : Q18.own? s k = true) : ∃ (n : Nat) (x : Mx.Msg), k = (n : Int) ∧ s.l[n]? = some x ∧ Q18.sendE s k d = (if 8 < d.size then 12 else if x.event then Vq.putE s.q else 0) ∧ Q18.sendS s k d = (if 8 < d.size then s else if x.event then { s with q := Vq.putS s.q ⟨k, d⟩ } else { s with own := Q18.put s.own k d }) := by
  unfold Q18.own? at h
  unfold Q18.sendE Q18.sendS
  cases e : Q18.msgAt s k with
  | none => rw [e] at h; cases h
  | some x =>
    rw [e] at h
    dsimp only at h ⊢
    have hn : x.owner = s.who := by simpa using h
    rw [if_pos hn, if_pos hn]
    unfold Q18.msgAt at e
    split at e
    · exact ⟨k.toNat, x, by omega, e, rfl, rfl⟩
    · cases e
set_option maxHeartbeats 4000000 in
theorem oj_send (V w : World) (p : Nat) (F : Nat → Prop) (s : Q18.St) (k : Int) (d : ByteArray) (hV : Below V.heap.size V w) (hk : (Lit.int .i64 k).wf = true) (h : ObjectAt V w p F s) : Ob.Turns Try.prog (ObjectAt V) 11 #[Ob.ptr p, .int .i64 k, .string d] w p F (Q18.sendS s k d) (.int .i64 (Q18.sendE s k d)) := by
  obtain ⟨a, c, b1, b2, q, H, hF, hx⟩ := h
  have HX : Hid (Ox V w p s a c b1 b2 q H) := hx
  have HF : Hid (∀ g, F g ↔ g = p ∨ g = b1 ∨ g = b2 ∨ H g) := hF
  have HL : Hid (LI w a c s.l.length (s.l.flatMap mC2)) := hx.msgs.on hV
  have HO : Hid (Calls Try.prog 29 #[Ob.ptr p, .int .i64 k] w fun e w' => e = .returned (.bool (Q18.own? s k)) ∧ Below w.heap.size w w') := oj_own w p c a _ _ _ s k hx.row (hx.msgs.on hV)
  clear hF hx hV
  unfold Ob.Turns
  show Calls _ _ _ _ (fun e w' => e = _ ∧ Oz V w w' p F (Q18.sendS s k d))
  cases ho : Q18.own? s k with
  | false =>
    obtain ⟨e1, e2⟩ := Q18.own_no d ho
    rw [ho] at HO
    rw [e1, e2]
    clear e1 e2 ho hk
    go_enter Try.func11, Try.ntmps11
    go_wp2_with (go_at_call 29; refine HO.out.mono ?_; rintro e w1 ⟨rfl, hb⟩)
    go_ret
    exact ⟨rfl, HX.out.z HF.out hb⟩
  | true =>
    obtain ⟨n, x, rfl, hx, e1, e2⟩ := Q18.own_yes d ho
    rw [ho] at HO
    rw [e1, e2]
    have HI : Hid (Q18.inn s.own.length (n : Int) = true) := Q18.inn_iff.2 ⟨by omega, by rw [HX.out.ok.own]; have := (List.getElem?_eq_some_iff.1 hx).1; omega⟩
    have hn : n < s.l.length := (List.getElem?_eq_some_iff.1 hx).1
    have HN : Hid (n < s.l.length) := hn
    have HMs : Hid (∃ g o, a = some ⟨g, o, none⟩ ∧ ∀ w', Below w.heap.size w w' → w'.cell? ⟨g, o + n * 3 + 2, none⟩ = some (.bool x.event)) := by
      obtain ⟨g, o, hs, m1, m2⟩ := ms_at HL.out hx
      exact ⟨g, o, hs, fun w' hb => (hb.cell (p := ⟨g, o + n * 3 + 2, none⟩) (block_lt_of_cell m2)).trans m2⟩
    generalize x.event = ev at HMs ⊢
    have HK : Hid ((Lit.int .i64 (n : Int)).wf = true) := hk
    clear e1 e2 ho hk hx HL hn
    by_cases h8 : 8 < d.size
    · have h8i : (8 : Int) < (d.size : Int) := by omega
      rw [if_pos h8, if_pos h8]
      clear h8
      go_enter Try.func11, Try.ntmps11
      go_wp2_with (go_at_call 29; refine HO.out.mono ?_; rintro e w1 ⟨rfl, hb⟩)
      go_ret
      exact ⟨rfl, HX.out.z HF.out hb⟩
    · have h8i : ¬ ((8 : Int) < (d.size : Int)) := by omega
      rw [if_neg h8, if_neg h8]
      clear h8
      cases ev with
      | true =>
        have HA : Hid (∀ w1, QueueAt w1 q H s.q → Ob.Turns Try.prog QueueAt 30 #[Ob.ptr q, .int .i64 (n : Int), .string d] w1 q H (Vq.putS s.q ⟨(n : Int), d⟩) (.int .i64 (Vq.putE s.q))) := fun w1 hq => qk_put w1 q H s.q (n : Int) d hq
        simp only [if_true]
        generalize Vq.putE s.q = pe at HA ⊢
        generalize Vq.putS s.q ⟨(n : Int), d⟩ = ps at HA ⊢
        unfold Ob.Turns at HA
        go_enter Try.func11, Try.ntmps11
        go_wp2_with fail
        refine HO.out.mono ?_
        rintro e w1 ⟨rfl, hb⟩
        have HB : Hid (Below w.heap.size w w1) := hb
        have HX1 : Hid (Ox V w1 p s a c b1 b2 q H) := HX.out.on hb
        obtain ⟨g, o, rfl, hm⟩ := HMs.out
        have m2 := hm w1 hb
        obtain ⟨c0, c1, c2, c3, c4⟩ := HX1.out.cells
        have hni : (n : Int) < (s.l.length : Int) := by have := HN.out; omega
        have hn0 := HN.out
        clear hm hb HO HMs
        have HA1 := HA.out w1 HX1.out.q
        generalize s.l.length = N at c1 hni hn0
        go_wp2_with (go_at_call 30; refine HA1.mono ?_; rintro e w2 ⟨rfl, H', h1, h2, h3⟩)
        go_ret
        exact ⟨rfl, (HX1.out.zq HF.out h1 h2 h3).from HB.out⟩
      | false =>
        simp only [Bool.false_eq_true, if_false]
        go_enter Try.func11, Try.ntmps11
        go_wp2_with fail
        refine HO.out.mono ?_
        rintro e w1 ⟨rfl, hb⟩
        have HB : Hid (Below w.heap.size w w1) := hb
        have HX1 : Hid (Ox V w1 p s a c b1 b2 q H) := HX.out.on hb
        obtain ⟨g, o, rfl, hm⟩ := HMs.out
        have m2 := hm w1 hb
        obtain ⟨c0, c1, c2, c3, c4⟩ := HX1.out.cells
        have hni : (n : Int) < (s.l.length : Int) := by have := HN.out; omega
        have hn0 := HN.out
        clear hm hb HO HMs
        have HA : Hid (Calls Try.prog 31 #[.map (some b1), .int .i64 (n : Int), .string d] w1 fun e w' => e = .returned (.tuple #[]) ∧ Mw.Is w' b1 (Q18.put s.own (n : Int) d) ∧ Kept (fun j => j = b1) w1 w') := oj_lay w1 b1 s.own (n : Int) d HX1.out.m1 HK.out HI.out
        generalize s.l.length = N at c1 hni hn0
        go_wp2_with (go_at_call 31; refine HA.out.mono ?_; rintro e w2 ⟨rfl, h1, h2⟩)
        go_ret
        exact ⟨rfl, (HX1.out.zown HF.out h1 h2).from HB.out⟩
end Go.Proofs.Ytkgeknkppnadfaa
