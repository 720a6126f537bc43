/- Layer 18: the document's objects: Send, Take, Sent. -/
import Derived.Test.YtkgeknkppnadfaaS18
namespace Go.Proofs.Ytkgeknkppnadfaa
open Go.RowKit Go.WideShapes Go.ChangeShapes Go.ChangeAt
set_option linter.unusedVariables false
theorem kept_two {w : World} {x y j : Nat} {u v : Value} : Kept (fun g => g = x ∨ g = y) w ((w.setCell ⟨x, j, none⟩ u).setCell ⟨y, j, none⟩ v) :=
  (Kept.set (F := fun g => g = x ∨ g = y) w ⟨x, j, none⟩ u (Or.inl rfl)).trans (Kept.set (F := fun g => g = x ∨ g = y) _ ⟨y, j, none⟩ v (Or.inr rfl)) (fun g hg => Or.inl hg)

theorem Rx.put_own {V w : World} {p : Nat} {F : Nat → Prop} {s : Q18.St} {m : Mx.M} {a : Ma} {n g1 g2 g3 g4 r : Nat} {H : Nat → Prop} (h : Rx V w p F s m a n g1 g2 g3 g4 r H) {j : Nat} (hj : j < n) (d : ByteArray) : Rx V ((w.setCell ⟨g1, j, none⟩ (.string d)).setCell ⟨g2, j, none⟩ (.bool true)) p F { s with own := Q18.put s.own (j : Int) d } m a n g1 g2 g3 g4 r H := by
  have e : Q18.put s.own (j : Int) d = s.own.set j (some d) := Q18.put_nat (by rw [h.ok.own, ← h.n]; exact hj) d
  rw [e]
  refine ⟨h.f, ⟨?_, ?_, ?_, ?_, ?_, h.ro.d13, h.ro.d24⟩, rq_is.on h.q (fun g hg => ?_), h.apart, ⟨h.ok.n, by show (s.own.set j (some d)).length = _; rw [List.length_set]; exact h.ok.own, h.ok.came, h.ok.q⟩, h.n, h.msgs, h.mem⟩
  · exact h.ro.row.kept kept_two (fun e => e.elim (row_ne17 h.ro.row h.ro.o1 (by decide)) (row_ne17 h.ro.row h.ro.o2 (by decide)))
  · exact by have := (h.ro.o1.set j (.string d)); rw [oS_set] at this; exact this.kept (Kept.set (F := fun g => g = g2) _ ⟨g2, j, none⟩ _ rfl) (row_ne17 h.ro.o1 h.ro.o2 (by decide))
  · exact by have e : RowT 4 (w.setCell ⟨g1, j, none⟩ (.string d)) g2 (oB s.own) := h.ro.o2.kept (Kept.set (F := fun g => g = g1) _ ⟨g1, j, none⟩ _ rfl) (row_ne17 h.ro.o2 h.ro.o1 (by decide)); have := e.set j (.bool true); rw [oB_set s.own j d] at this; exact this
  · exact h.ro.o3.kept kept_two (fun e => e.elim (fun e => h.ro.d13 e.symm) (row_ne17 h.ro.o3 h.ro.o2 (by decide)))
  · exact h.ro.o4.kept kept_two (fun e => e.elim (row_ne17 h.ro.o4 h.ro.o1 (by decide)) (fun e => h.ro.d24 e.symm))
  · obtain ⟨k1, k2, k3, k4, k5⟩ := h.apart g hg
    exact (kept_two (w := w) (x := g1) (y := g2) (j := j) (u := .string d) (v := .bool true)).block g (rq_is.lt h.q g hg) (fun e => e.elim k2 k3)

theorem Rx.put_came {V w : World} {p : Nat} {F : Nat → Prop} {s : Q18.St} {m : Mx.M} {a : Ma} {n g1 g2 g3 g4 r : Nat} {H : Nat → Prop} (h : Rx V w p F s m a n g1 g2 g3 g4 r H) {j : Nat} (hj : j < n) (d : ByteArray) : Rx V ((w.setCell ⟨g3, j, none⟩ (.string d)).setCell ⟨g4, j, none⟩ (.bool true)) p F { s with came := Q18.put s.came (j : Int) d } m a n g1 g2 g3 g4 r H := by
  have e : Q18.put s.came (j : Int) d = s.came.set j (some d) := Q18.put_nat (by rw [h.ok.came, ← h.n]; exact hj) d
  rw [e]
  refine ⟨h.f, ⟨?_, ?_, ?_, ?_, ?_, h.ro.d13, h.ro.d24⟩, rq_is.on h.q (fun g hg => ?_), h.apart, ⟨h.ok.n, h.ok.own, by show (s.came.set j (some d)).length = _; rw [List.length_set]; exact h.ok.came, h.ok.q⟩, h.n, h.msgs, h.mem⟩
  · exact h.ro.row.kept kept_two (fun e => e.elim (row_ne17 h.ro.row h.ro.o3 (by decide)) (row_ne17 h.ro.row h.ro.o4 (by decide)))
  · exact h.ro.o1.kept kept_two (fun e => e.elim (fun e => h.ro.d13.symm e.symm) (row_ne17 h.ro.o1 h.ro.o4 (by decide)))
  · exact h.ro.o2.kept kept_two (fun e => e.elim (row_ne17 h.ro.o2 h.ro.o3 (by decide)) (fun e => h.ro.d24.symm e.symm))
  · exact by have := (h.ro.o3.set j (.string d)); rw [oS_set] at this; exact this.kept (Kept.set (F := fun g => g = g4) _ ⟨g4, j, none⟩ _ rfl) (row_ne17 h.ro.o3 h.ro.o4 (by decide))
  · exact by have e : RowT 4 (w.setCell ⟨g3, j, none⟩ (.string d)) g4 (oB s.came) := h.ro.o4.kept (Kept.set (F := fun g => g = g3) _ ⟨g3, j, none⟩ _ rfl) (row_ne17 h.ro.o4 h.ro.o3 (by decide)); have := e.set j (.bool true); rw [oB_set s.came j d] at this; exact this
  · obtain ⟨k1, k2, k3, k4, k5⟩ := h.apart g hg
    exact (kept_two (w := w) (x := g3) (y := g4) (j := j) (u := .string d) (v := .bool true)).block g (rq_is.lt h.q g hg) (fun e => e.elim k4 k5)

set_option maxRecDepth 100000 in
set_option maxHeartbeats 8000000 in
theorem ro_take (V w : World) (p : Nat) (F : Nat → Prop) (s : Q18.St) (k : Int) (D : ByteArray) (hk : (Lit.int .i64 k).wf = true) (h : RoAt V w p F s) : Ob.Turns Try.prog (RoAt V) 16 #[Ob.ptr p, .int .i64 k, .string D] w p F (Q18.gotS s k D) (.tuple #[]) := by
  have HA : Hid (∀ w', Below w.heap.size w w' → ∃ F', RoAt V w' p F' s ∧ (∀ g, F' g → F g ∨ w.heap.size ≤ g) ∧ Kept F w w') := fun w' hb => (h.turned (v := undef) hb).2
  obtain ⟨m, a, n, g1, g2, g3, g4, r, H, hx⟩ := h
  have hl : s.came.length = n := by rw [hx.ok.came, ← hx.n]
  have hn1 : (n : Int) ≤ 1000 := by have := hx.ok.n; have := hx.n; omega
  unfold Ob.Turns Q18.gotS
  by_cases hin : 0 ≤ k ∧ k < (n : Int)
  · obtain ⟨j, rfl⟩ := Int.eq_ofNat_of_zero_le hin.1
    have HJ : Hid (j < n) := (by omega : j < n)
    have ji : (j : Int) < (n : Int) := hin.2
    have jb : (j : Int) < 1000 := by omega
    have HT1 := hx.there (j : Int) hk true (Q18.inn_iff.2 hin) w (Below.refl _ _)
    clear hin hl hk HA
    go_enter Try.func16, Try.ntmps16
    go_wp2_with fail
    refine HT1.mono ?_
    rintro e w1 ⟨rfl, hb1⟩
    replace hx := hx.below hb1
    have HB1 : Hid (Below w.heap.size w w1) := hb1
    clear hb1 HT1
    go_upto_region 1 with fail
    have hx2 := hx.below ((Below.refl w1.heap.size w1).drew)
    obtain ⟨o, ho⟩ : ∃ o, s.came[j]? = some o := ⟨_, List.getElem?_eq_getElem (by rw [hx.ok.came, ← hx.n]; exact HJ.out)⟩
    have q1 : w1.drew.cell? ⟨g3, j, none⟩ = some (.string (o.getD ByteArray.empty)) := hx2.ro.o3.c j _ (oS_at ho)
    have f1 : w1.drew.frozen? ⟨g3, j, none⟩ = false := hx2.ro.o3.f j
    have kS : Kept (fun g => g = g3) w1.drew (w1.drew.setCell ⟨g3, j, none⟩ (.string D)) := Kept.set _ _ _ rfl
    have r2 : RowT 4 (w1.drew.setCell ⟨g3, j, none⟩ (.string D)) g4 (oB s.came) := hx2.ro.o4.kept kS (row_ne17 hx2.ro.o4 hx2.ro.o3 (by decide))
    have q2 : (w1.drew.setCell ⟨g3, j, none⟩ (.string D)).cell? ⟨g4, j, none⟩ = some (.bool o.isSome) := r2.c j _ (oB_at ho)
    have f2 : (w1.drew.setCell ⟨g3, j, none⟩ (.string D)).frozen? ⟨g4, j, none⟩ = false := r2.f j
    have HX9 : Hid (Rx V ((w1.drew.setCell ⟨g3, j, none⟩ (.string D)).setCell ⟨g4, j, none⟩ (.bool true)) p F { s with came := Q18.put s.came (j : Int) D } m a n g1 g2 g3 g4 r H) := hx2.put_came HJ.out D
    have HK9 : Hid (Kept F w1 ((w1.drew.setCell ⟨g3, j, none⟩ (.string D)).setCell ⟨g4, j, none⟩ (.bool true))) := (Kept.drew F w1).trans (kept_two.mono (fun g hg => (hx.f g).2 (by rcases hg with h | h <;> simp [h]))) (fun g hg => Or.inl hg)
    have s0 := hx2.ro.row
    have s1 := hx2.ro.row.kept kS (row_ne17 hx2.ro.row hx2.ro.o3 (by decide))
    have s2 := HX9.out.ro.row
    clear hx2 r2 kS ho
    refine wp_region_held_drew (S := fun w' => RowT 54 w' p #[.int .i64 m.level, .int .i64 m.nodes, .int .i64 m.cycles, .int .i64 m.length, .int .i64 m.enable, .int .i64 m.unit, .int .i64 m.init, .int .u32 (m.ref : Int), .slice a.s1 m.masters.length a.c1, .slice a.s2 m.messages.length a.c2, .slice a.s3 m.windows.length a.c3, .int .i64 s.who, .slice (some ⟨g1, 0, none⟩) n n, .slice (some ⟨g2, 0, none⟩) n n, .slice (some ⟨g3, 0, none⟩) n n, .slice (some ⟨g4, 0, none⟩) n n, Ob.ptr r]) (by kernel_rfl) s0 (fun hHeld => ?_)
    generalize w1.drew = vd at q1 f1 q2 f2 HX9 HK9 s0 s1 s2 hHeld ⊢
    refine Hl.takeL (i := 0) (d := 9) (v := ?_) rfl (by kernel_rfl) (by kernel_rfl) (by kernel_rfl) (fun _ _ _ h => h) (by rfl) ?_ (by first | assumption | trivial) ?_
    rotate_left
    · intro w hSw; skip; go_simp; (try with_reducible rfl)
    simp only [Act.put, List.setIfInBounds_toArray, List.set_cons_zero, List.set_cons_succ]
    refine Hl.takeL (i := 1) (d := 10) (v := ?_) rfl (by kernel_rfl) (by kernel_rfl) (by kernel_rfl) (fun _ _ _ h => h) (by rfl) ?_ (by first | assumption | trivial) ?_
    rotate_left
    · intro w hSw; skip; go_simp; (try with_reducible rfl)
    simp only [Act.put, List.setIfInBounds_toArray, List.set_cons_zero, List.set_cons_succ]
    refine Hl.takeL (i := 2) (d := 11) (v := ?_) rfl (by kernel_rfl) (by kernel_rfl) (by kernel_rfl) (fun _ _ _ h => h) (by rfl) ?_ (by first | assumption | trivial) ?_
    rotate_left
    · intro w hSw; skip; go_simp; (try with_reducible rfl)
    simp only [Act.put, List.setIfInBounds_toArray, List.set_cons_zero, List.set_cons_succ]
    refine Hl.takeL (i := 3) (d := 12) (v := ?_) rfl (by kernel_rfl) (by kernel_rfl) (by kernel_rfl) (fun _ _ _ h => h) (by rfl) ?_ (by first | assumption | trivial) ?_
    rotate_left
    · intro w hSw; have e12 := (show RowT 54 w p _ from hSw).c 14 _ rfl; have e13 := (show RowT 54 w p _ from hSw).c 15 _ rfl; go_simp; (try with_reducible rfl)
    simp only [Act.put, List.setIfInBounds_toArray, List.set_cons_zero, List.set_cons_succ]
    refine Hl.takeL (i := 4) (d := 13) (v := ?_) rfl (by kernel_rfl) (by kernel_rfl) (by kernel_rfl) (fun _ _ _ h => h) (by rfl) ?_ (by first | assumption | trivial) ?_
    rotate_left
    · intro w hSw; skip; go_simp; (try with_reducible rfl)
    simp only [Act.put, List.setIfInBounds_toArray, List.set_cons_zero, List.set_cons_succ]
    refine Hl.takeL (i := 5) (d := 14) (v := ?_) rfl (by kernel_rfl) (by kernel_rfl) (by kernel_rfl) (fun _ _ _ h => h) (by rfl) ?_ (by first | assumption | trivial) ?_
    rotate_left
    · intro w hSw; skip; go_simp; (try with_reducible rfl)
    simp only [Act.put, List.setIfInBounds_toArray, List.set_cons_zero, List.set_cons_succ]
    refine Hl.takeL (i := 6) (d := 15) (v := ?_) rfl (by kernel_rfl) (by kernel_rfl) (by kernel_rfl) (fun _ _ _ h => h) (by rfl) ?_ (by first | assumption | trivial) ?_
    rotate_left
    · intro w hSw; skip; go_simp; (try with_reducible rfl)
    simp only [Act.put, List.setIfInBounds_toArray, List.set_cons_zero, List.set_cons_succ]
    refine Hl.takeL (i := 7) (d := 16) (v := ?_) rfl (by kernel_rfl) (by kernel_rfl) (by kernel_rfl) (fun _ _ _ h => h) (by rfl) ?_ (by first | assumption | trivial) ?_
    rotate_left
    · intro w hSw; skip; go_simp; (try with_reducible rfl)
    simp only [Act.put, List.setIfInBounds_toArray, List.set_cons_zero, List.set_cons_succ]
    refine Hl.takeL (i := 8) (d := 17) (v := ?_) rfl (by kernel_rfl) (by kernel_rfl) (by kernel_rfl) (fun _ _ _ h => h) (by rfl) ?_ (by first | assumption | trivial) ?_
    rotate_left
    · intro w hSw; have e12 := (show RowT 54 w p _ from hSw).c 14 _ rfl; have e13 := (show RowT 54 w p _ from hSw).c 15 _ rfl; go_simp; (try with_reducible rfl)
    simp only [Act.put, List.setIfInBounds_toArray, List.set_cons_zero, List.set_cons_succ]
    refine Hl.takeL (i := 9) (d := 18) (v := ?_) rfl (by kernel_rfl) (by kernel_rfl) (by kernel_rfl) (fun _ _ _ h => h) (by rfl) ?_ (by first | assumption | trivial) ?_
    rotate_left
    · intro w hSw; skip; go_simp; (try with_reducible rfl)
    simp only [Act.put, List.setIfInBounds_toArray, List.set_cons_zero, List.set_cons_succ]
    refine Hl.takeL (i := 10) (d := 19) (v := ?_) rfl (by kernel_rfl) (by kernel_rfl) (by kernel_rfl) (fun _ _ _ h => h) (by rfl) ?_ (by first | assumption | trivial) ?_
    rotate_left
    · intro w hSw; skip; go_simp; (try with_reducible rfl)
    simp only [Act.put, List.setIfInBounds_toArray, List.set_cons_zero, List.set_cons_succ]
    refine Hl.takeL (i := 11) (d := 20) (v := ?_) rfl (by kernel_rfl) (by kernel_rfl) (by kernel_rfl) (fun _ _ _ h => h) (by rfl) ?_ (by first | assumption | trivial) ?_
    rotate_left
    · intro w hSw; skip; go_simp; (try with_reducible rfl)
    simp only [Act.put, List.setIfInBounds_toArray, List.set_cons_zero, List.set_cons_succ]
    refine Hl.consL (i := 12) rfl (by kernel_rfl) (fun K' hK' => ?_)
    go_simp
    refine hK'.out _ _ s1 (fun hHeld => ?_)
    clear hK' K' hHeld
    refine Hl.consL (i := 13) rfl (by kernel_rfl) (fun K' hK' => ?_)
    go_simp
    refine hK'.out _ _ s1 (fun hHeld => ?_)
    clear hK' K' hHeld
    refine Hl.consL (i := 14) rfl (by kernel_rfl) (fun K' hK' => ?_)
    go_simp
    refine hK'.out _ _ s2 (fun hHeld => ?_)
    clear hK' K' hHeld
    refine wpAnyH_done (by kernel_rfl) ?_ _
    clear q1 f1 q2 f2 s0 s1 s2
    go_wp2
    go_end0
    exact ⟨rfl, F, ⟨m, a, n, g1, g2, g3, g4, r, H, HX9.out⟩, fun g hg => Or.inl hg, (Kept.of_below (F := F) HB1.out).trans HK9.out (fun g hg => Or.inl hg)⟩
  · have HT1 := hx.there k hk false (Q18.inn_no hin) w (Below.refl _ _)
    rw [Q18.put_no (by rw [hl]; exact hin)]
    clear hx hin hl hk
    go_enter Try.func16, Try.ntmps16
    go_wp2_with fail
    refine HT1.mono ?_
    rintro e w1 ⟨rfl, hb1⟩
    have HB1 : Hid (Below w.heap.size w w1) := hb1
    clear hb1 HT1
    go_wp2
    go_end0
    exact ⟨rfl, HA.out _ HB1.out⟩

theorem Rx.requeue {V w : World} {p : Nat} {F : Nat → Prop} {s : Q18.St} {m : Mx.M} {a : Ma} {n g1 g2 g3 g4 r : Nat} {H : Nat → Prop} (h : Rx V w p F s m a n g1 g2 g3 g4 r H) {w' : World} {H' : Nat → Prop} {q' : Vq.St} (hq : RqAt w' r H' q') (hs : ∀ g, H' g → H g ∨ w.heap.size ≤ g) (hk : Kept H w w') (hok : Vq.Ok q') : Rx V w' p (fun g => g = p ∨ g = g1 ∨ g = g2 ∨ g = g3 ∨ g = g4 ∨ H' g) { s with q := q' } m a n g1 g2 g3 g4 r H' := by
  have hn : ∀ g, (g = p ∨ g = g1 ∨ g = g2 ∨ g = g3 ∨ g = g4) → ¬ H g := fun g hg hH => by
    obtain ⟨k1, k2, k3, k4, k5⟩ := h.apart g hH
    rcases hg with h | h | h | h | h
    · exact k1 h
    · exact k2 h
    · exact k3 h
    · exact k4 h
    · exact k5 h
  have hl : ∀ g, (g = p ∨ g = g1 ∨ g = g2 ∨ g = g3 ∨ g = g4) → g < w.heap.size := fun g hg => h.lt g ((h.f g).2 (by rcases hg with h | h | h | h | h <;> simp [h]))
  have hro := h.ro.same (w' := w') (fun g hg => hk.block g (hl g hg) (hn g hg))
  refine ⟨fun g => Iff.rfl, ⟨hro.row, hro.o1, hro.o2, hro.o3, hro.o4, hro.d13, hro.d24⟩, hq, fun g hg => ?_, ⟨h.ok.n, h.ok.own, h.ok.came, hok⟩, h.n, h.msgs, h.mem⟩
  rcases hs g hg with hg | hg
  · exact h.apart g hg
  · have a0 := hl p (by simp); have a1 := hl g1 (by simp); have a2 := hl g2 (by simp); have a3 := hl g3 (by simp); have a4 := hl g4 (by simp)
    exact ⟨by omega, by omega, by omega, by omega, by omega⟩
theorem Rx.again {V w : World} {p : Nat} {F : Nat → Prop} {s : Q18.St} {m : Mx.M} {a : Ma} {n g1 g2 g3 g4 r : Nat} {H : Nat → Prop} (h : Rx V w p F s m a n g1 g2 g3 g4 r H) {w0 w' : World} {H' : Nat → Prop} (hb : Below w0.heap.size w0 w) (hl : ∀ g, F g → g < w0.heap.size) (hs : ∀ g, H' g → H g ∨ w.heap.size ≤ g) (hk : Kept H w w') : (∀ g, (g = p ∨ g = g1 ∨ g = g2 ∨ g = g3 ∨ g = g4 ∨ H' g) → F g ∨ w0.heap.size ≤ g) ∧ Kept F w0 w' := by
  refine ⟨fun g hg => ?_, (Kept.of_below (F := F) hb).trans (hk.mono (fun g hg => (h.f g).2 (by simp [hg]))) (fun g hg => Or.inl hg)⟩
  rcases hg with h0 | h0 | h0 | h0 | h0 | h0
  · exact Or.inl ((h.f g).2 (by simp [h0]))
  · exact Or.inl ((h.f g).2 (by simp [h0]))
  · exact Or.inl ((h.f g).2 (by simp [h0]))
  · exact Or.inl ((h.f g).2 (by simp [h0]))
  · exact Or.inl ((h.f g).2 (by simp [h0]))
  · exact (hs g h0).imp (fun k => (h.f g).2 (by simp [k])) (fun k => by have := hb.size; omega)
theorem Rx.message {V w : World} {p : Nat} {F : Nat → Prop} {s : Q18.St} {m : Mx.M} {a : Ma} {n g1 g2 g3 g4 r : Nat} {H : Nat → Prop} (h : Rx V w p F s m a n g1 g2 g3 g4 r H) (hV : Below V.heap.size V w) {j : Nat} {x : Mx.Msg} (hj : s.l[j]? = some x) : ∃ g o, a.s2 = some ⟨g, o, none⟩ ∧ ∀ w', Below w.heap.size w w' → w'.cell? ⟨p, 9, none⟩ = some (.slice (some ⟨g, o, none⟩) n a.c2) ∧ w'.cell? ⟨g, o + j * 3 + 1, none⟩ = some (.int .i64 x.owner) ∧ w'.cell? ⟨g, o + j * 3 + 2, none⟩ = some (.bool x.event) ∧ w'.cell? ⟨p, 11, none⟩ = some (.int .i64 s.who) ∧ w'.cell? ⟨p, 16, none⟩ = some (Ob.ptr r) := by
  have hj' : m.messages[j]? = some x := by rw [h.msgs]; exact hj
  obtain ⟨g, o, hs, hg, c0, c1, c2⟩ := h.mem.message hj'
  refine ⟨g, o, hs, fun w' hb => ?_⟩
  have hr := (h.below hb).ro.row
  have hVw : Below V.heap.size V w' := hV.trans (hb.mono hV.size)
  have hn : m.messages.length = n := by rw [h.msgs]; exact h.n.symm
  refine ⟨?_, ?_, ?_, hr.c 11 _ rfl, hr.c 16 _ rfl⟩
  · have := hr.c 9 _ rfl
    rw [hn, hs] at this
    exact this
  · exact (hVw.cell (p := ⟨g, o + j * 3 + 1, none⟩) hg).trans c1
  · exact (hVw.cell (p := ⟨g, o + j * 3 + 2, none⟩) hg).trans c2

set_option maxRecDepth 100000 in
set_option maxHeartbeats 8000000 in
theorem ro_send (V w : World) (p : Nat) (F : Nat → Prop) (s : Q18.St) (k : Int) (D : ByteArray) (hV : Below V.heap.size V w) (hk : (Lit.int .i64 k).wf = true) (h : RoAt V w p F s) : Ob.Turns Try.prog (RoAt V) 12 #[Ob.ptr p, .int .i64 k, .string D] w p F (Q18.sendS s k D) (.int .i64 (Q18.sendE s k D)) := by
  have HA : Hid (∀ w', Below w.heap.size w w' → ∃ F', RoAt V w' p F' s ∧ (∀ g, F' g → F g ∨ w.heap.size ≤ g) ∧ Kept F w w') := fun w' hb => (h.turned (v := undef) hb).2
  obtain ⟨m, a, n, g1, g2, g3, g4, r, H, hx⟩ := h
  have hn1 : (n : Int) ≤ 1000 := by have := hx.ok.n; have := hx.n; omega
  unfold Ob.Turns
  obtain ⟨E, hE⟩ : ∃ E, Q18.sendE s k D = E := ⟨_, rfl⟩
  obtain ⟨S', hS'⟩ : ∃ S', Q18.sendS s k D = S' := ⟨_, rfl⟩
  rw [hE, hS']
  by_cases hin : 0 ≤ k ∧ k < (n : Int)
  · obtain ⟨j, rfl⟩ := Int.eq_ofNat_of_zero_le hin.1
    have HJ : Hid (j < n) := (by omega : j < n)
    have ji : (j : Int) < (n : Int) := hin.2
    have jb : (j : Int) < 1000 := by omega
    obtain ⟨x, hj⟩ : ∃ x, s.l[j]? = some x := ⟨_, List.getElem?_eq_getElem (by have := hx.n; omega)⟩
    have HES : Hid ((x.owner ≠ s.who → E = 145 ∧ S' = s) ∧ (x.owner = s.who → 8 < D.size → E = 12 ∧ S' = s) ∧ (x.owner = s.who → ¬ 8 < D.size → x.event = true → E = Vq.putE s.q ∧ S' = { s with q := Vq.putS s.q ⟨(j : Int), D⟩ }) ∧ (x.owner = s.who → ¬ 8 < D.size → x.event = false → E = 0 ∧ S' = { s with own := Q18.put s.own (j : Int) D })) := by
      have q1 := hE
      have q2 := hS'
      unfold Q18.sendE at q1
      unfold Q18.sendS at q2
      rw [Q18.msg_nat, hj] at q1 q2
      refine ⟨fun h => ?_, fun h h2 => ?_, fun h h2 h3 => ?_, fun h h2 h3 => ?_⟩
      · simp only [if_neg h] at q1 q2; exact ⟨q1.symm, q2.symm⟩
      · simp only [if_pos h, if_pos h2] at q1 q2; exact ⟨q1.symm, q2.symm⟩
      · simp only [if_pos h, if_neg h2, h3, if_true] at q1 q2; exact ⟨q1.symm, q2.symm⟩
      · simp only [if_pos h, if_neg h2, h3, Bool.false_eq_true, if_false] at q1 q2; exact ⟨q1.symm, q2.symm⟩
    clear hE hS'
    have HT1 : Hid (∀ w', Below w.heap.size w w' → Calls Try.prog 32 #[Ob.ptr p, .int .i64 (j : Int)] w' fun e w'' => e = .returned (.bool true) ∧ Below w'.heap.size w' w'') := hx.there (j : Int) hk true (Q18.inn_iff.2 hin)
    obtain ⟨gm, om, hs2, hC⟩ := hx.message hV hj
    have HC : Hid (∀ w', Below w.heap.size w w' → w'.cell? ⟨p, 9, none⟩ = some (.slice (some ⟨gm, om, none⟩) n a.c2) ∧ w'.cell? ⟨gm, om + j * 3 + 1, none⟩ = some (.int .i64 x.owner) ∧ w'.cell? ⟨gm, om + j * 3 + 2, none⟩ = some (.bool x.event) ∧ w'.cell? ⟨p, 11, none⟩ = some (.int .i64 s.who) ∧ w'.cell? ⟨p, 16, none⟩ = some (Ob.ptr r)) := hC
    have HX : Hid (Rx V w p F s m a n g1 g2 g3 g4 r H) := hx
    clear hin hk hx hC hs2 hj hV
    go_enter Try.func12, Try.ntmps12
    go_upto_region 1 with fail
    by_cases how : x.owner = s.who
    rotate_left
    · have hwb : (x.owner != s.who) = true := bne_iff_ne.2 how
      obtain ⟨rfl, rfl⟩ := HES.out.1 how
      refine Lw.wp_region_quiet_below (by kernel_rfl) (by kernel_rfl) ?_
      repeat (first
        | go_big_quiet_skip
        | (go_big_quiet_want; go_big_quiet_op; go_big_quiet_on)
        | (go_big_quiet_want; go_big_quiet_op; apply Exists.intro; refine ⟨fun _ hb' => ?_, ?_⟩; (first
          | exact Lw.val_rfl _
          | (go_at_call 32; exact Lw.calls_below hb' (HT1.out _ hb'))
          | (simp [go_sem, (HC.out _ hb').1]; rfl)
          | (simp [go_sem, (HC.out _ hb').2.1]; rfl)
          | (simp [go_sem, (HC.out _ hb').2.2.2.1]; rfl)); go_big_quiet_on))
      refine wpQuiet_nil ?_
      intro w1 hb1
      have HB1 : Hid (Below w.heap.size w w1) := hb1
      clear hb1
      go_wp2
      go_ret
      exact ⟨rfl, HA.out _ HB1.out⟩
    have hwb : (x.owner != s.who) = false := by rw [how]; simp
    refine Lw.wp_region_quiet_below (by kernel_rfl) (by kernel_rfl) ?_
    repeat (first
      | go_big_quiet_skip
      | (go_big_quiet_want; go_big_quiet_op; go_big_quiet_on)
      | (go_big_quiet_want; go_big_quiet_op; apply Exists.intro; refine ⟨fun _ hb' => ?_, ?_⟩; (first
        | exact Lw.val_rfl _
        | (go_at_call 32; exact Lw.calls_below hb' (HT1.out _ hb'))
        | (simp [go_sem, (HC.out _ hb').1]; rfl)
        | (simp [go_sem, (HC.out _ hb').2.1]; rfl)
        | (simp [go_sem, (HC.out _ hb').2.2.2.1]; rfl)); go_big_quiet_on))
    refine wpQuiet_nil ?_
    intro w1 hb1
    have HB1 : Hid (Below w.heap.size w w1) := hb1
    have HOw : Hid (x.owner = s.who) := how
    clear hwb how hb1
    by_cases h8 : 8 < D.size
    · have h8i : (8 : Int) < (D.size : Int) := by omega
      obtain ⟨rfl, rfl⟩ := HES.out.2.1 HOw.out h8
      clear h8
      go_wp2
      go_ret
      exact ⟨rfl, HA.out _ HB1.out⟩
    have h8i : ¬ ((8 : Int) < (D.size : Int)) := by omega
    have H8 : Hid (¬ 8 < D.size) := h8
    clear h8
    obtain ⟨e9, _, eE, _, e16⟩ := HC.out _ HB1.out
    cases hev : x.event with
    | true =>
      rw [hev] at eE
      obtain ⟨rfl, rfl⟩ := HES.out.2.2.1 HOw.out H8.out hev
      have hx1 := HX.out.below HB1.out
      clear hev
      go_wp2_with fail
      refine (rq_puts w1 r H s.q (j : Int) D hx1.q).mono ?_
      rintro e w2 ⟨rfl, H', hq, hs, hkk⟩
      have HX2 := hx1.requeue hq hs hkk (Vq.ok_put hx1.ok.q _)
      have HR : Hid (∃ F', RoAt V w2 p F' { s with q := Vq.putS s.q ⟨(j : Int), D⟩ } ∧ (∀ g, F' g → F g ∨ w.heap.size ≤ g) ∧ Kept F w w2) := ⟨_, ⟨m, a, n, g1, g2, g3, g4, r, H', HX2⟩, hx1.again HB1.out HX.out.lt hs hkk⟩
      clear hq hs hkk HX2 hx1 e9 eE e16
      go_wp2
      go_ret
      exact ⟨rfl, HR.out⟩
    | false =>
      rw [hev] at eE
      obtain ⟨rfl, rfl⟩ := HES.out.2.2.2 HOw.out H8.out hev
      have hx := HX.out.below HB1.out
      clear hev
      go_upto_region 7 with fail
      clear e9 eE e16 HX HT1 HC
      have hx2 := hx.below ((Below.refl w1.heap.size w1).drew)
      obtain ⟨o, ho⟩ : ∃ o, s.own[j]? = some o := ⟨_, List.getElem?_eq_getElem (by rw [hx.ok.own, ← hx.n]; exact HJ.out)⟩
      have q1 : w1.drew.cell? ⟨g1, j, none⟩ = some (.string (o.getD ByteArray.empty)) := hx2.ro.o1.c j _ (oS_at ho)
      have f1 : w1.drew.frozen? ⟨g1, j, none⟩ = false := hx2.ro.o1.f j
      have kS : Kept (fun g => g = g1) w1.drew (w1.drew.setCell ⟨g1, j, none⟩ (.string D)) := Kept.set _ _ _ rfl
      have r2 : RowT 4 (w1.drew.setCell ⟨g1, j, none⟩ (.string D)) g2 (oB s.own) := hx2.ro.o2.kept kS (row_ne17 hx2.ro.o2 hx2.ro.o1 (by decide))
      have q2 : (w1.drew.setCell ⟨g1, j, none⟩ (.string D)).cell? ⟨g2, j, none⟩ = some (.bool o.isSome) := r2.c j _ (oB_at ho)
      have f2 : (w1.drew.setCell ⟨g1, j, none⟩ (.string D)).frozen? ⟨g2, j, none⟩ = false := r2.f j
      have HX9 : Hid (Rx V ((w1.drew.setCell ⟨g1, j, none⟩ (.string D)).setCell ⟨g2, j, none⟩ (.bool true)) p F { s with own := Q18.put s.own (j : Int) D } m a n g1 g2 g3 g4 r H) := hx2.put_own HJ.out D
      have HK9 : Hid (Kept F w1 ((w1.drew.setCell ⟨g1, j, none⟩ (.string D)).setCell ⟨g2, j, none⟩ (.bool true))) := (Kept.drew F w1).trans (kept_two.mono (fun g hg => (hx.f g).2 (by rcases hg with h | h <;> simp [h]))) (fun g hg => Or.inl hg)
      have s0 := hx2.ro.row
      have s1 := hx2.ro.row.kept kS (row_ne17 hx2.ro.row hx2.ro.o1 (by decide))
      have s2 := HX9.out.ro.row
      clear hx2 r2 kS ho
      refine wp_region_held_drew (S := fun w' => RowT 54 w' p #[.int .i64 m.level, .int .i64 m.nodes, .int .i64 m.cycles, .int .i64 m.length, .int .i64 m.enable, .int .i64 m.unit, .int .i64 m.init, .int .u32 (m.ref : Int), .slice a.s1 m.masters.length a.c1, .slice a.s2 m.messages.length a.c2, .slice a.s3 m.windows.length a.c3, .int .i64 s.who, .slice (some ⟨g1, 0, none⟩) n n, .slice (some ⟨g2, 0, none⟩) n n, .slice (some ⟨g3, 0, none⟩) n n, .slice (some ⟨g4, 0, none⟩) n n, Ob.ptr r]) (by kernel_rfl) s0 (fun hHeld => ?_)
      generalize w1.drew = vd at q1 f1 q2 f2 HX9 HK9 s0 s1 s2 hHeld ⊢
      refine Hl.takeL (i := 0) (d := 46) (v := ?_) rfl (by kernel_rfl) (by kernel_rfl) (by kernel_rfl) (fun _ _ _ h => h) (by rfl) ?_ (by first | assumption | trivial) ?_
      rotate_left
      · intro w hSw; skip; go_simp; (try with_reducible rfl)
      simp only [Act.put, List.setIfInBounds_toArray, List.set_cons_zero, List.set_cons_succ]
      refine Hl.takeL (i := 1) (d := 47) (v := ?_) rfl (by kernel_rfl) (by kernel_rfl) (by kernel_rfl) (fun _ _ _ h => h) (by rfl) ?_ (by first | assumption | trivial) ?_
      rotate_left
      · intro w hSw; skip; go_simp; (try with_reducible rfl)
      simp only [Act.put, List.setIfInBounds_toArray, List.set_cons_zero, List.set_cons_succ]
      refine Hl.takeL (i := 2) (d := 48) (v := ?_) rfl (by kernel_rfl) (by kernel_rfl) (by kernel_rfl) (fun _ _ _ h => h) (by rfl) ?_ (by first | assumption | trivial) ?_
      rotate_left
      · intro w hSw; skip; go_simp; (try with_reducible rfl)
      simp only [Act.put, List.setIfInBounds_toArray, List.set_cons_zero, List.set_cons_succ]
      refine Hl.takeL (i := 3) (d := 49) (v := ?_) rfl (by kernel_rfl) (by kernel_rfl) (by kernel_rfl) (fun _ _ _ h => h) (by rfl) ?_ (by first | assumption | trivial) ?_
      rotate_left
      · intro w hSw; have e12 := (show RowT 54 w p _ from hSw).c 12 _ rfl; have e13 := (show RowT 54 w p _ from hSw).c 13 _ rfl; go_simp; (try with_reducible rfl)
      simp only [Act.put, List.setIfInBounds_toArray, List.set_cons_zero, List.set_cons_succ]
      refine Hl.takeL (i := 4) (d := 50) (v := ?_) rfl (by kernel_rfl) (by kernel_rfl) (by kernel_rfl) (fun _ _ _ h => h) (by rfl) ?_ (by first | assumption | trivial) ?_
      rotate_left
      · intro w hSw; skip; go_simp; (try with_reducible rfl)
      simp only [Act.put, List.setIfInBounds_toArray, List.set_cons_zero, List.set_cons_succ]
      refine Hl.takeL (i := 5) (d := 51) (v := ?_) rfl (by kernel_rfl) (by kernel_rfl) (by kernel_rfl) (fun _ _ _ h => h) (by rfl) ?_ (by first | assumption | trivial) ?_
      rotate_left
      · intro w hSw; skip; go_simp; (try with_reducible rfl)
      simp only [Act.put, List.setIfInBounds_toArray, List.set_cons_zero, List.set_cons_succ]
      refine Hl.takeL (i := 6) (d := 52) (v := ?_) rfl (by kernel_rfl) (by kernel_rfl) (by kernel_rfl) (fun _ _ _ h => h) (by rfl) ?_ (by first | assumption | trivial) ?_
      rotate_left
      · intro w hSw; skip; go_simp; (try with_reducible rfl)
      simp only [Act.put, List.setIfInBounds_toArray, List.set_cons_zero, List.set_cons_succ]
      refine Hl.takeL (i := 7) (d := 53) (v := ?_) rfl (by kernel_rfl) (by kernel_rfl) (by kernel_rfl) (fun _ _ _ h => h) (by rfl) ?_ (by first | assumption | trivial) ?_
      rotate_left
      · intro w hSw; skip; go_simp; (try with_reducible rfl)
      simp only [Act.put, List.setIfInBounds_toArray, List.set_cons_zero, List.set_cons_succ]
      refine Hl.takeL (i := 8) (d := 54) (v := ?_) rfl (by kernel_rfl) (by kernel_rfl) (by kernel_rfl) (fun _ _ _ h => h) (by rfl) ?_ (by first | assumption | trivial) ?_
      rotate_left
      · intro w hSw; have e12 := (show RowT 54 w p _ from hSw).c 12 _ rfl; have e13 := (show RowT 54 w p _ from hSw).c 13 _ rfl; go_simp; (try with_reducible rfl)
      simp only [Act.put, List.setIfInBounds_toArray, List.set_cons_zero, List.set_cons_succ]
      refine Hl.takeL (i := 9) (d := 55) (v := ?_) rfl (by kernel_rfl) (by kernel_rfl) (by kernel_rfl) (fun _ _ _ h => h) (by rfl) ?_ (by first | assumption | trivial) ?_
      rotate_left
      · intro w hSw; skip; go_simp; (try with_reducible rfl)
      simp only [Act.put, List.setIfInBounds_toArray, List.set_cons_zero, List.set_cons_succ]
      refine Hl.takeL (i := 10) (d := 56) (v := ?_) rfl (by kernel_rfl) (by kernel_rfl) (by kernel_rfl) (fun _ _ _ h => h) (by rfl) ?_ (by first | assumption | trivial) ?_
      rotate_left
      · intro w hSw; skip; go_simp; (try with_reducible rfl)
      simp only [Act.put, List.setIfInBounds_toArray, List.set_cons_zero, List.set_cons_succ]
      refine Hl.takeL (i := 11) (d := 57) (v := ?_) rfl (by kernel_rfl) (by kernel_rfl) (by kernel_rfl) (fun _ _ _ h => h) (by rfl) ?_ (by first | assumption | trivial) ?_
      rotate_left
      · intro w hSw; skip; go_simp; (try with_reducible rfl)
      simp only [Act.put, List.setIfInBounds_toArray, List.set_cons_zero, List.set_cons_succ]
      refine Hl.consL (i := 12) rfl (by kernel_rfl) (fun K' hK' => ?_)
      go_simp
      refine hK'.out _ _ s1 (fun hHeld => ?_)
      clear hK' K' hHeld
      refine Hl.consL (i := 13) rfl (by kernel_rfl) (fun K' hK' => ?_)
      go_simp
      refine hK'.out _ _ s1 (fun hHeld => ?_)
      clear hK' K' hHeld
      refine Hl.consL (i := 14) rfl (by kernel_rfl) (fun K' hK' => ?_)
      go_simp
      refine hK'.out _ _ s2 (fun hHeld => ?_)
      clear hK' K' hHeld
      refine wpAnyH_done (by kernel_rfl) ?_ _
      clear q1 f1 q2 f2 s0 s1 s2
      go_wp2
      go_ret
      exact ⟨rfl, F, ⟨m, a, n, g1, g2, g3, g4, r, H, HX9.out⟩, fun g hg => Or.inl hg, (Kept.of_below (F := F) HB1.out).trans HK9.out (fun g hg => Or.inl hg)⟩
  · have HT1 : Hid (∀ w', Below w.heap.size w w' → Calls Try.prog 32 #[Ob.ptr p, .int .i64 k] w' fun e w'' => e = .returned (.bool false) ∧ Below w'.heap.size w' w'') := hx.there k hk false (Q18.inn_no hin)
    obtain rfl : E = 145 := by rw [← hE]; unfold Q18.sendE; rw [Q18.msg_no (by have := hx.n; omega)]
    obtain rfl : S' = s := by rw [← hS']; unfold Q18.sendS; rw [Q18.msg_no (by have := hx.n; omega)]
    clear hE hS'
    clear hx hin hk
    go_enter Try.func12, Try.ntmps12
    go_upto_region 1 with fail
    refine Lw.wp_region_quiet_below (by kernel_rfl) (by kernel_rfl) ?_
    repeat (first
      | go_big_quiet_skip
      | (go_big_quiet_want; go_big_quiet_op; go_big_quiet_on)
      | (go_big_quiet_want; go_big_quiet_op; apply Exists.intro; refine ⟨fun _ hb' => ?_, ?_⟩; (first
        | exact Lw.val_rfl _
        | (go_at_call 32; exact Lw.calls_below hb' (HT1.out _ hb'))); go_big_quiet_on))
    refine wpQuiet_nil ?_
    intro w1 hb1
    have HB1 : Hid (Below w.heap.size w w1) := hb1
    clear hb1
    go_wp2
    go_ret
    exact ⟨rfl, HA.out _ HB1.out⟩

set_option maxRecDepth 100000 in
set_option maxHeartbeats 8000000 in
theorem ro_sent (V w : World) (p : Nat) (F : Nat → Prop) (s : Q18.St) (k : Int) (hk : (Lit.int .i64 k).wf = true) (h : RoAt V w p F s) : Ob.Turns Try.prog (RoAt V) 14 #[Ob.ptr p, .int .i64 k] w p F (Q18.sentS s k) (.tuple #[]) := by
  have HA : Hid (∀ w', Below w.heap.size w w' → ∃ F', RoAt V w' p F' s ∧ (∀ g, F' g → F g ∨ w.heap.size ≤ g) ∧ Kept F w w') := fun w' hb => (h.turned (v := undef) hb).2
  obtain ⟨m, a, n, g1, g2, g3, g4, r, H, hx⟩ := h
  have HX : Hid (Rx V w p F s m a n g1 g2 g3 g4 r H) := hx
  have e16 : w.cell? ⟨p, 16, none⟩ = some (Ob.ptr r) := hx.ro.row.c 16 _ rfl
  obtain ⟨b, c, hF, hq, hO⟩ := hx.q
  have b1 : w.cell? ⟨r, 1, none⟩ = some (.slice b s.q.l.length c) := hq.row.c 1 _ rfl
  have hl4 : (s.q.l.length : Int) ≤ 4 := by have := hO.2.1; have := hO.2.2; omega
  have HO : Hid (Vq.Ok s.q) := hO
  unfold Ob.Turns
  cases hl : s.q.l with
  | nil =>
    have hE : Q18.sentS s k = s := by unfold Q18.sentS; rw [hl]; rfl
    rw [hE]
    rw [hl] at b1
    clear hq hF hx hO hE hl hl4
    go_enter Try.func14, Try.ntmps14
    go_wp2
    go_end0
    exact ⟨rfl, HA.out _ (Below.refl _ _)⟩
  | cons d l =>
    have hli : LI w b c s.q.l.length (s.q.l.flatMap dC) := hq.ol.sl.li
    obtain ⟨g, o, hs, hc⟩ := LI.del (l := s.q.l) hli (i := 0) (d := d) (by rw [hl]; rfl)
    obtain ⟨d0, d1⟩ := hc w (Below.refl _ _)
    rw [Nat.zero_mul, Nat.add_zero] at d0
    have hlen : 0 < s.q.l.length := by rw [hl]; exact Nat.zero_lt_succ _
    obtain ⟨N, hN⟩ : ∃ N, s.q.l.length = N := ⟨_, rfl⟩
    have hhd : (Vq.hd s.q).msg = d.msg := by unfold Vq.hd; rw [hl]; rfl
    have hlp : decide (0 < s.q.l.length) = true := decide_eq_true hlen
    have hp : (0 : Int) < (N : Int) := by omega
    rw [hs, hN] at b1
    by_cases hm : d.msg = k
    · have hE : Q18.sentS s k = { s with q := Vq.takeS s.q } := by unfold Q18.sentS; rw [hlp, hhd, hm]; simp
      have hmb : (d.msg == k) = true := by rw [hm]; simp
      rw [hE]
      clear hq hF hO hE hhd hlp hlen hli hc d1 hs hl
      go_enter Try.func14, Try.ntmps14
      go_wp2_with fail
      refine (rq_takes w r H s.q hx.q).mono ?_
      rintro e w2 ⟨rfl, H', hq, hs, hkk⟩
      have HX2 := hx.requeue hq hs hkk (Vq.ok_take HO.out)
      have HR : Hid (∃ F', RoAt V w2 p F' { s with q := Vq.takeS s.q } ∧ (∀ g, F' g → F g ∨ w.heap.size ≤ g) ∧ Kept F w w2) := ⟨_, ⟨m, a, n, g1, g2, g3, g4, r, H', HX2⟩, hx.again (Below.refl _ _) hx.lt hs hkk⟩
      clear hq hs hkk HX2 hx b1 d0 e16
      go_wp2
      go_end0
      exact ⟨rfl, HR.out⟩
    · have hE : Q18.sentS s k = s := by unfold Q18.sentS; rw [hhd, beq_eq_false_iff_ne.2 hm, Bool.and_false]; rfl
      have hmb : (d.msg == k) = false := beq_eq_false_iff_ne.2 hm
      rw [hE]
      clear hq hF hx hO hE hhd hlp hlen hli hc d1 hs hl hm
      go_enter Try.func14, Try.ntmps14
      go_wp2
      go_end0
      exact ⟨rfl, HA.out _ (Below.refl _ _)⟩
end Go.Proofs.Ytkgeknkppnadfaa
