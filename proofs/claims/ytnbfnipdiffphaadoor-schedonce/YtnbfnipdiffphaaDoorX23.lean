/- Package sched, landed: the plan, the cycle, up to what all is told, what is open: one struct; the plan's list stays. -/
import Derived.Test.YtnbfnipdiffphaaDoorA23
import Derived.Test.YtnbfnipdiffphaaDoorM23T
import Derived.Test.YtnbfnipdiffphaaDoorYz
import Derived.Test.YtnbfnipdiffphaaDoorRg
import Derived.Test.YtnbfnipdiffphaaDoorU2
import Derived.Test.YtnbfnipdiffphaaDoorHl
import Derived.Test.YtnbfnipdiffphaaDoorUp
import Derived.OpenShut
import Derived.Deep.MidRow
import Derived.Laws.StructEq
import Derived.BigQuiet
import Derived.WalkMore
namespace Go.Proofs.YtnbfnipdiffphaaDoor
open Go.RowKit Go.WideShapes
set_option linter.unusedVariables false
def xsC (a : Option Addr) (c n : Nat) (cy at_ : Int) (z : Yq.Tr) (b : Bool) : Array Value := #[.slice a n c, .int .i64 cy, .int .i64 at_, .int .i64 z.kind, .int .i64 z.at_, .int .i64 z.cycle, .int .i64 z.rep, .int .i64 z.msg, .int .i64 z.til, .bool b]
structure XsOk (s : Q23.St) : Prop where
  wf : ∀ t ∈ s.plan, Yq.Wf t
  len : s.plan.length ≤ 1000
  cy : (Lit.int .i64 s.cycle).wf = true
def SchedAt (R : Oq.Rs) : Ob.A Q23.St := fun w p F s => F = (fun j => j = p) ∧ XsOk s ∧ ∃ a c, Oq.Lst R a c s.plan.length (s.plan.flatMap tC) ∧ RowT 56 w p (xsC a c s.plan.length s.cycle s.at_ (s.op.getD Q23.tz) s.op.isSome)
theorem schedIs (R : Oq.Rs) : Ob.Is (SchedAt R) where
  on := by
    rintro w w' p F s ⟨rfl, ok, a, c, hl, h⟩ hk
    exact ⟨rfl, ok, a, c, hl, (hk p rfl).trans h⟩
  lt := by
    rintro w p F s ⟨rfl, ok, a, c, hl, h⟩ g rfl
    exact h.lt
theorem xs_planwf (m : Mx.M) (who : Int) : ∀ t ∈ Yq.plan m who, Yq.Wf t := fun t ht => by
  by_cases hc : (Lq.check m).2 = 0
  · exact Yq.plan_wf (Lq.passes_of hc) ht
  · unfold Yq.plan at ht
    rw [if_neg hc] at ht
    cases ht
set_option maxRecDepth 100000 in
set_option maxHeartbeats 4000000 in
theorem xs_closeE (w : World) (p : Nat) (a : Option Addr) (c n : Nat) (cy at_ : Int) (z : Yq.Tr) (b : Bool) (h : RowT 56 w p (xsC a c n cy at_ z b)) : Calls Tryd.prog 13 #[Ob.ptr p] w fun e w' => e = .returned (.tuple #[]) ∧ RowT 56 w' p (xsC a c n cy at_ Q23.tz false) ∧ Kept (fun j => j = p) w w' := by
  have HM : Hid (RowT 56 w p (xsC a c n cy at_ z b)) := h
  have c3 : w.cell? ⟨p, 3, none⟩ = some (.int .i64 z.kind) := h.c 3 _ rfl
  have c4 : w.cell? ⟨p, 4, none⟩ = some (.int .i64 z.at_) := h.c 4 _ rfl
  have c5 : w.cell? ⟨p, 5, none⟩ = some (.int .i64 z.cycle) := h.c 5 _ rfl
  have c6 : w.cell? ⟨p, 6, none⟩ = some (.int .i64 z.rep) := h.c 6 _ rfl
  have c7 : w.cell? ⟨p, 7, none⟩ = some (.int .i64 z.msg) := h.c 7 _ rfl
  have c8 : w.cell? ⟨p, 8, none⟩ = some (.int .i64 z.til) := h.c 8 _ rfl
  have c9 : w.cell? ⟨p, 9, none⟩ = some (.bool b) := h.c 9 _ rfl
  have f3 := h.f 3
  have f4 := h.f 4
  have f5 := h.f 5
  have f6 := h.f 6
  have f7 := h.f 7
  have f8 := h.f 8
  have f9 := h.f 9
  clear h
  go_enter Tryd.func13, Tryd.ntmps13
  go_wp2
  go_end0
  exact ⟨rfl, ((((((HM.out.set 3 _).set 4 _).set 5 _).set 6 _).set 7 _).set 8 _).set 9 _, (Kept.refl _ _).sets.sets.sets.sets.sets.sets.sets⟩
set_option maxRecDepth 100000 in
set_option maxHeartbeats 4000000 in
theorem xs_close (R : Oq.Rs) (w : World) (p : Nat) (F : Nat → Prop) (s : Q23.St) (h : SchedAt R w p F s) : Ob.Turns Tryd.prog (SchedAt R) 13 #[Ob.ptr p] w p F (Q23.close s) (.tuple #[]) := by
  obtain ⟨rfl, ok, a, c, hl, h⟩ := h
  refine (xs_closeE w p a c _ _ _ _ _ h).mono ?_
  rintro e w' ⟨rfl, h', hk⟩
  exact ⟨rfl, _, ⟨rfl, ⟨ok.wf, ok.len, ok.cy⟩, a, c, hl, h'⟩, fun g hg => Or.inl hg, hk⟩
set_option maxRecDepth 100000 in
set_option maxHeartbeats 4000000 in
theorem xs_begin (R : Oq.Rs) (w : World) (p : Nat) (F : Nat → Prop) (s : Q23.St) (n : Int) (hn : (Lit.int .i64 n).wf = true) (h : SchedAt R w p F s) : Ob.Turns Tryd.prog (SchedAt R) 12 #[Ob.ptr p, .int .i64 n] w p F (Q23.begin_ s n) (.tuple #[]) := by
  obtain ⟨rfl, ok, a, c, hl, h⟩ := h
  have HO : Hid (XsOk (Q23.begin_ s n)) := ⟨ok.wf, ok.len, hn⟩
  have HL : Hid (Oq.Lst R a c s.plan.length (s.plan.flatMap tC)) := hl
  have HC : Hid (∀ w' b z, RowT 56 w' p (xsC a c s.plan.length n 0 b z) → Calls Tryd.prog 13 #[Ob.ptr p] w' fun e w'' => e = .returned (.tuple #[]) ∧ RowT 56 w'' p (xsC a c s.plan.length n 0 Q23.tz false) ∧ Kept (fun j => j = p) w' w'') := fun w' b z h => xs_closeE w' p a c _ _ _ _ _ h
  have HM : Hid (RowT 56 w p (xsC a c s.plan.length s.cycle s.at_ (s.op.getD Q23.tz) s.op.isSome)) := h
  have c1 : w.cell? ⟨p, 1, none⟩ = some (.int .i64 s.cycle) := h.c 1 _ rfl
  have c2 : w.cell? ⟨p, 2, none⟩ = some (.int .i64 s.at_) := h.c 2 _ rfl
  have f1 := h.f 1
  have f2 := h.f 2
  clear h ok hn hl
  unfold Ob.Turns
  go_enter Tryd.func12, Tryd.ntmps12
  go_wp2_with fail
  refine (HC.out _ _ _ ((HM.out.set 1 _).set 2 _)).mono ?_
  rintro e w1 ⟨rfl, h1, hk⟩
  have H1 : Hid (RowT 56 w1 p (xsC a c s.plan.length n 0 Q23.tz false)) := h1
  have HK : Hid (Kept (fun j => j = p) w w1) := ((Kept.refl _ _).sets.sets).trans hk (fun g hg => Or.inl hg)
  clear h1 hk HC
  go_wp2
  go_end0
  exact ⟨rfl, _, ⟨rfl, HO.out, a, c, HL.out, H1.out⟩, fun g hg => Or.inl hg, HK.out⟩
set_option maxRecDepth 100000 in
set_option maxHeartbeats 4000000 in
theorem xs_over (R : Oq.Rs) (w : World) (p : Nat) (F : Nat → Prop) (s : Q23.St) (n : Int) (h : SchedAt R w p F s) : Ob.Looks Tryd.prog 17 #[Ob.ptr p, .int .i64 n] w (.bool (Q23.over s n)) := by
  obtain ⟨rfl, ok, a, c, hl, h⟩ := h
  obtain ⟨pl, cy, at_, op⟩ := s
  have c8 : w.cell? ⟨p, 8, none⟩ = some (.int .i64 (op.getD Q23.tz).til) := h.c 8 _ rfl
  have c9 : w.cell? ⟨p, 9, none⟩ = some (.bool op.isSome) := h.c 9 _ rfl
  clear h ok hl
  unfold Ob.Looks
  cases op with
  | none =>
    dsimp only [Option.getD_none, Option.isSome_none] at c8 c9
    show Calls _ _ _ _ fun e w' => e = .returned (.bool false) ∧ _
    go_enter Tryd.func17, Tryd.ntmps17
    go_wp2
    go_ret
    exact ⟨rfl, Below.refl _ _⟩
  | some t =>
    dsimp only [Option.getD_some, Option.isSome_some] at c8 c9
    show Calls _ _ _ _ fun e w' => e = .returned (.bool (decide (t.til < n))) ∧ _
    go_enter Tryd.func17, Tryd.ntmps17
    go_wp2
    go_ret
    exact ⟨rfl, Below.refl _ _⟩
set_option maxRecDepth 100000 in
set_option maxHeartbeats 4000000 in
theorem xs_copy (R : Oq.Rs) (w : World) (p : Nat) (F : Nat → Prop) (s : Q23.St) (h : SchedAt R w p F s) : Ob.Makes Tryd.prog (SchedAt R) 11 #[Ob.ptr p] w s := by
  obtain ⟨rfl, ok, a, c, hl, h⟩ := h
  have HO : Hid (XsOk s) := ok
  have HL : Hid (Oq.Lst R a c s.plan.length (s.plan.flatMap tC)) := hl
  have c0 : w.cell? ⟨p, 0, none⟩ = some (.slice a s.plan.length c) := h.c 0 _ rfl
  have c1 : w.cell? ⟨p, 1, none⟩ = some (.int .i64 s.cycle) := h.c 1 _ rfl
  have c2 : w.cell? ⟨p, 2, none⟩ = some (.int .i64 s.at_) := h.c 2 _ rfl
  have c3 : w.cell? ⟨p, 3, none⟩ = some (.int .i64 (s.op.getD Q23.tz).kind) := h.c 3 _ rfl
  have c4 : w.cell? ⟨p, 4, none⟩ = some (.int .i64 (s.op.getD Q23.tz).at_) := h.c 4 _ rfl
  have c5 : w.cell? ⟨p, 5, none⟩ = some (.int .i64 (s.op.getD Q23.tz).cycle) := h.c 5 _ rfl
  have c6 : w.cell? ⟨p, 6, none⟩ = some (.int .i64 (s.op.getD Q23.tz).rep) := h.c 6 _ rfl
  have c7 : w.cell? ⟨p, 7, none⟩ = some (.int .i64 (s.op.getD Q23.tz).msg) := h.c 7 _ rfl
  have c8 : w.cell? ⟨p, 8, none⟩ = some (.int .i64 (s.op.getD Q23.tz).til) := h.c 8 _ rfl
  have c9 : w.cell? ⟨p, 9, none⟩ = some (.bool s.op.isSome) := h.c 9 _ rfl
  clear h ok hl
  unfold Ob.Makes
  go_enter Tryd.func11, Tryd.ntmps11
  go_wp2
  go_ret
  exact ⟨_, _, rfl, ⟨rfl, HO.out, a, c, HL.out, RowT.new _ _ _⟩, fun g hg => by have hg' : g = w.heap.size := hg; omega, (Below.refl _ _).alloc (Nat.le_refl _) _⟩
theorem Q23.lastO_none (o : Option Yq.Tr) : ∀ (l : List Yq.Tr), (∀ t ∈ l, Q23.may t = false) → Q23.lastO o l = o
  | [], _ => rfl
  | t :: l, h => by
    have e : Q23.lastO o (t :: l) = Q23.lastO (if Q23.may t then some t else o) l := rfl
    rw [e, h t List.mem_cons_self]
    exact Q23.lastO_none o l (fun u hu => h u (List.mem_cons_of_mem _ hu))
theorem Q23.lastO_at {o : Option Yq.Tr} {l : List Yq.Tr} {j : Nat} {t : Yq.Tr} (hj : l[j]? = some t) (hm : Q23.may t = true) (hn : ∀ u ∈ l.drop (j + 1), Q23.may u = false) : Q23.lastO o l = some t := by
  have e : Q23.lastO o l = Q23.lastO (Q23.lastO o (l.take (j + 1))) (l.drop (j + 1)) := by
    conv => lhs; rw [← List.take_append_drop (j + 1) l]
    unfold Q23.lastO
    rw [List.foldl_append]
  rw [e, Q23.lastO_none _ _ hn, Q23.lastO_take o hj, if_pos hm]
theorem Q23.drop_one {l : List Yq.Tr} {j : Nat} {t : Yq.Tr} (hj : l[j]? = some t) (hm : Q23.may t = false) (hn : ∀ u ∈ l.drop (j + 1), Q23.may u = false) : ∀ u ∈ l.drop j, Q23.may u = false := by
  obtain ⟨hlt, he⟩ := List.getElem?_eq_some_iff.1 hj
  rw [List.drop_eq_getElem_cons hlt, he]
  intro u hu
  rcases List.mem_cons.1 hu with rfl | hu
  · exact hm
  · exact hn u hu
set_option maxRecDepth 100000 in
set_option maxHeartbeats 4000000 in
theorem xs_last (w : World) (p : Nat) (a : Option Addr) (c n : Nat) (cy at_ : Int) (o : Option Yq.Tr) (l : List Yq.Tr) (s : Option Addr) (k : Nat) (h : RowT 56 w p (xsC a c n cy at_ (o.getD Q23.tz) o.isSome)) (hl : LI w s k l.length (l.flatMap tC)) (hlen : l.length ≤ 1000) : Calls Tryd.prog 28 #[Ob.ptr p, .slice s l.length k] w fun e w' => e = .returned (.tuple #[]) ∧ RowT 56 w' p (xsC a c n cy at_ ((Q23.lastO o l).getD Q23.tz) (Q23.lastO o l).isSome) ∧ Kept (fun j => j = p) w w' := by
  have HG : Hid (∀ i, i < l.length → ∃ t, l[i]? = some t) := fun i hi => ⟨_, List.getElem?_eq_getElem hi⟩
  have HEl : Hid (∀ i t, l[i]? = some t → ∃ g o, s = some ⟨g, o, none⟩ ∧ ∀ w', Below w.heap.size w w' → w'.cell? ⟨g, o + i * 6, none⟩ = some (.int .i64 t.kind) ∧ w'.cell? ⟨g, o + i * 6 + 1, none⟩ = some (.int .i64 t.at_) ∧ w'.cell? ⟨g, o + i * 6 + 2, none⟩ = some (.int .i64 t.cycle) ∧ w'.cell? ⟨g, o + i * 6 + 3, none⟩ = some (.int .i64 t.rep) ∧ w'.cell? ⟨g, o + i * 6 + 4, none⟩ = some (.int .i64 t.msg) ∧ w'.cell? ⟨g, o + i * 6 + 5, none⟩ = some (.int .i64 t.til)) := fun i t ht => hl.trig ht
  have HM : Hid (RowT 56 w p (xsC a c n cy at_ (o.getD Q23.tz) o.isSome)) := h
  have HA : Hid (∀ j t, l[j]? = some t → Q23.may t = true → (∀ u ∈ l.drop (j + 1), Q23.may u = false) → Q23.lastO o l = some t) := fun j t h1 h2 h3 => Q23.lastO_at h1 h2 h3
  have HN : Hid ((∀ u ∈ l.drop 0, Q23.may u = false) → Q23.lastO o l = o) := fun h => Q23.lastO_none o l h
  have HD : Hid (∀ j t, l[j]? = some t → Q23.may t = false → (∀ u ∈ l.drop (j + 1), Q23.may u = false) → ∀ u ∈ l.drop j, Q23.may u = false) := fun j t h1 h2 h3 => Q23.drop_one h1 h2 h3
  have HZ : Hid (∀ u ∈ l.drop l.length, Q23.may u = false) := by
    show ∀ _, _
    rw [List.drop_length]
    intro u hu
    cases hu
  clear h hl
  generalize Q23.lastO o l = V at HA HN ⊢
  generalize hN : l.length = N at HG HZ hlen ⊢
  clear hN
  have hw : IntKind.i64.wrap ((N : Int) - 1) = (N : Int) - 1 := by rw [IntKind.wrap_i64]; omega
  go_enter Tryd.func28, Tryd.ntmps28
  go_wp2_with fail
  go_step3
  go_wp2_with fail
  go_step3
  go_wp2_with fail
  go_loopw [4] (fun vi wr => ∃ x : Int, vi = .int .i64 x ∧ -1 ≤ x ∧ x < (N : Int) ∧ wr = w ∧ Hid (∀ u ∈ l.drop (x + 1).toNat, Q23.may u = false)) (fun vi _ => (intOf vi + 1).toNat)
  case atStart => exact ⟨(N : Int) - 1, by first | rfl | rw [hw], by omega, by omega, rfl, by show ∀ _, _; rw [show ((N : Int) - 1 + 1).toNat = N by omega]; exact HZ.out⟩
  case round =>
    obtain ⟨x, rfl, hx1, hx2, rfl, HX⟩ := hrel
    clear hw HZ
    by_cases hx : 0 ≤ x
    · obtain ⟨j, rfl⟩ := Int.eq_ofNat_of_zero_le hx
      have hj : j < N := by omega
      obtain ⟨t, ht⟩ := HG.out j hj
      obtain ⟨g, of, rfl, hc⟩ := HEl.out j t ht
      obtain ⟨e0, e1, e2, e3, e4, e5⟩ := hc wr (Below.refl _ _)
      have HT : Hid (l[j]? = some t) := ht
      have HX' : Hid (∀ u ∈ l.drop (j + 1), Q23.may u = false) := HX.out
      clear hc ht HX HG HEl hx1
      obtain ⟨tk, ta, tc, tr, tm, tt⟩ := t
      dsimp only at e0 e1 e2 e3 e4 e5
      have jI : (j : Int) < (N : Int) := by omega
      have jb : (j : Int) < 1000 := by omega
      by_cases h1 : tk = 1
      · subst h1
        have HV : Hid (V = some ⟨1, ta, tc, tr, tm, tt⟩) := HA.out j _ HT.out rfl HX'.out
        have c3 := HM.out.c 3 _ rfl
        have c4 := HM.out.c 4 _ rfl
        have c5 := HM.out.c 5 _ rfl
        have c6 := HM.out.c 6 _ rfl
        have c7 := HM.out.c 7 _ rfl
        have c8 := HM.out.c 8 _ rfl
        have c9 := HM.out.c 9 _ rfl
        have f3 := HM.out.f 3
        have f4 := HM.out.f 4
        have f5 := HM.out.f 5
        have f6 := HM.out.f 6
        have f7 := HM.out.f 7
        have f8 := HM.out.f 8
        have f9 := HM.out.f 9
        clear HA HN HD HX'
        go_wp2_with fail
        rw [Exit.noGoto_normal]
        go_end0
        rw [HV.out]
        exact ⟨rfl, ((((((HM.out.set 3 _).set 4 _).set 5 _).set 6 _).set 7 _).set 8 _).set 9 _, (Kept.refl _ _).sets.sets.sets.sets.sets.sets.sets⟩
      · by_cases h2 : tk = 2
        · subst h2
          have HV : Hid (V = some ⟨2, ta, tc, tr, tm, tt⟩) := HA.out j _ HT.out rfl HX'.out
          have c3 := HM.out.c 3 _ rfl
          have c4 := HM.out.c 4 _ rfl
          have c5 := HM.out.c 5 _ rfl
          have c6 := HM.out.c 6 _ rfl
          have c7 := HM.out.c 7 _ rfl
          have c8 := HM.out.c 8 _ rfl
          have c9 := HM.out.c 9 _ rfl
          have f3 := HM.out.f 3
          have f4 := HM.out.f 4
          have f5 := HM.out.f 5
          have f6 := HM.out.f 6
          have f7 := HM.out.f 7
          have f8 := HM.out.f 8
          have f9 := HM.out.f 9
          clear HA HN HD HX'
          go_wp2_with fail
          rw [Exit.noGoto_normal]
          go_end0
          rw [HV.out]
          exact ⟨rfl, ((((((HM.out.set 3 _).set 4 _).set 5 _).set 6 _).set 7 _).set 8 _).set 9 _, (Kept.refl _ _).sets.sets.sets.sets.sets.sets.sets⟩
        · have g1 : (tk == 1) = false := beq_eq_false_iff_ne.2 h1
          have g2 : (tk == 2) = false := beq_eq_false_iff_ne.2 h2
          have HX2 : Hid (∀ u ∈ l.drop j, Q23.may u = false) := HD.out j _ HT.out (by unfold Q23.may; rw [decide_eq_false h1, decide_eq_false h2]; rfl) HX'.out
          have hw : IntKind.i64.wrap ((j : Int) - 1) = (j : Int) - 1 := by rw [IntKind.wrap_i64]; omega
          clear HA HN HD HX' HT
          go_wp2_with fail
          exact ⟨⟨(j : Int) - 1, rfl, by omega, by omega, trivial, by rw [show ((j : Int) - 1 + 1).toNat = j by omega]; exact HX2⟩, by simp only [intOf]; omega⟩
    · obtain rfl : x = -1 := by omega
      have HV : Hid (V = o) := HN.out HX.out
      clear HA HN HD HG HEl hx1 hx2 HX
      go_wp2_with fail
      go_end0
      rw [HV.out]
      exact ⟨rfl, HM.out, Kept.refl _ _⟩
set_option maxRecDepth 100000 in
set_option maxHeartbeats 4000000 in
theorem xs_open (R : Oq.Rs) (w : World) (p : Nat) (F : Nat → Prop) (s : Q23.St) (h : SchedAt R w p F s) : Ob.Looks Tryd.prog 16 #[Ob.ptr p] w (opV s.op) := by
  obtain ⟨rfl, ok, a, c, hl, h⟩ := h
  have hp := h.lt
  obtain ⟨V, hV⟩ : ∃ V, opV s.op = V := ⟨_, rfl⟩
  have HV : Hid (.tuple #[.agg (trA (s.op.getD Q23.tz)), .bool s.op.isSome] = V) := hV
  have HB0 : Hid (Below w.heap.size w (w.alloc (.cells (trA Q23.tz) 36)).drew) := ((Below.refl _ _).alloc (Nat.le_refl _) _).drew
  have HM : Hid (RowT 56 (w.alloc (.cells (trA Q23.tz) 36)).drew p (xsC a c s.plan.length s.cycle s.at_ (s.op.getD Q23.tz) s.op.isSome)) := h.on HB0.out
  have HN : Hid (RowT 36 (w.alloc (.cells (trA Q23.tz) 36)).drew w.heap.size (trA Q23.tz)) := (RowT.new _ _ _).on (Below.refl _ _).drew
  rw [hV]
  clear hV h ok hl
  generalize s.op.getD Q23.tz = z at HM HV
  generalize s.op.isSome = b at HM HV
  unfold Ob.Looks
  go_enter Tryd.func16, Tryd.ntmps16
  go_upto_region 1 with fail
  refine wp_region_held_drew (S := fun w' => RowT 56 w' p (xsC a c s.plan.length s.cycle s.at_ z b) ∧ (∃ y, RowT 36 w' w.heap.size (trA y)) ∧ Below w.heap.size w w') (by kernel_rfl) ⟨HM.out, ⟨_, HN.out⟩, HB0.out⟩ (fun hHeld => ?_)
  clear HM HN HB0
  generalize World.drew _ = v0 at hHeld ⊢
  generalize hg : w.heap.size = g at hHeld hp ⊢
  refine Hl.takeL (i := 0) (d := 4) (v := ?_) rfl (by kernel_rfl) (by kernel_rfl) (by kernel_rfl) (fun _ _ _ h => h) (by rfl) ?_ (by first | assumption | trivial) ?_
  rotate_left
  · intro w hSw; have hr := hSw.1; have z3 : w.cell? ⟨p, 3, none⟩ = some (.int .i64 z.kind) := hr.c 3 _ rfl; have z4 : w.cell? ⟨p, 4, none⟩ = some (.int .i64 z.at_) := hr.c 4 _ rfl; have z5 : w.cell? ⟨p, 5, none⟩ = some (.int .i64 z.cycle) := hr.c 5 _ rfl; have z6 : w.cell? ⟨p, 6, none⟩ = some (.int .i64 z.rep) := hr.c 6 _ rfl; have z7 : w.cell? ⟨p, 7, none⟩ = some (.int .i64 z.msg) := hr.c 7 _ rfl; have z8 : w.cell? ⟨p, 8, none⟩ = some (.int .i64 z.til) := hr.c 8 _ rfl; have z9 : w.cell? ⟨p, 9, none⟩ = some (.bool b) := hr.c 9 _ rfl; go_simp; (try with_reducible rfl)
  try simp only [Act.put, List.setIfInBounds_toArray, List.set_cons_zero, List.set_cons_succ]
  refine Hl.takeL (i := 1) (d := 5) (v := ?_) rfl (by kernel_rfl) (by kernel_rfl) (by kernel_rfl) (fun _ _ _ h => h) (by rfl) ?_ (by first | assumption | trivial) ?_
  rotate_left
  · intro w hSw; have hr := hSw.1; have z3 : w.cell? ⟨p, 3, none⟩ = some (.int .i64 z.kind) := hr.c 3 _ rfl; have z4 : w.cell? ⟨p, 4, none⟩ = some (.int .i64 z.at_) := hr.c 4 _ rfl; have z5 : w.cell? ⟨p, 5, none⟩ = some (.int .i64 z.cycle) := hr.c 5 _ rfl; have z6 : w.cell? ⟨p, 6, none⟩ = some (.int .i64 z.rep) := hr.c 6 _ rfl; have z7 : w.cell? ⟨p, 7, none⟩ = some (.int .i64 z.msg) := hr.c 7 _ rfl; have z8 : w.cell? ⟨p, 8, none⟩ = some (.int .i64 z.til) := hr.c 8 _ rfl; have z9 : w.cell? ⟨p, 9, none⟩ = some (.bool b) := hr.c 9 _ rfl; go_simp; (try with_reducible rfl)
  try simp only [Act.put, List.setIfInBounds_toArray, List.set_cons_zero, List.set_cons_succ]
  refine Hl.takeL (i := 2) (d := 6) (v := ?_) rfl (by kernel_rfl) (by kernel_rfl) (by kernel_rfl) (fun _ _ _ h => h) (by rfl) ?_ (by first | assumption | trivial) ?_
  rotate_left
  · intro w hSw; have hr := hSw.1; have z3 : w.cell? ⟨p, 3, none⟩ = some (.int .i64 z.kind) := hr.c 3 _ rfl; have z4 : w.cell? ⟨p, 4, none⟩ = some (.int .i64 z.at_) := hr.c 4 _ rfl; have z5 : w.cell? ⟨p, 5, none⟩ = some (.int .i64 z.cycle) := hr.c 5 _ rfl; have z6 : w.cell? ⟨p, 6, none⟩ = some (.int .i64 z.rep) := hr.c 6 _ rfl; have z7 : w.cell? ⟨p, 7, none⟩ = some (.int .i64 z.msg) := hr.c 7 _ rfl; have z8 : w.cell? ⟨p, 8, none⟩ = some (.int .i64 z.til) := hr.c 8 _ rfl; have z9 : w.cell? ⟨p, 9, none⟩ = some (.bool b) := hr.c 9 _ rfl; go_simp; (try with_reducible rfl)
  try simp only [Act.put, List.setIfInBounds_toArray, List.set_cons_zero, List.set_cons_succ]
  refine Hl.takeL (i := 3) (d := 7) (v := ?_) rfl (by kernel_rfl) (by kernel_rfl) (by kernel_rfl) (fun _ _ _ h => h) (by rfl) ?_ (by first | assumption | trivial) ?_
  rotate_left
  · intro w hSw; have hr := hSw.1; have z3 : w.cell? ⟨p, 3, none⟩ = some (.int .i64 z.kind) := hr.c 3 _ rfl; have z4 : w.cell? ⟨p, 4, none⟩ = some (.int .i64 z.at_) := hr.c 4 _ rfl; have z5 : w.cell? ⟨p, 5, none⟩ = some (.int .i64 z.cycle) := hr.c 5 _ rfl; have z6 : w.cell? ⟨p, 6, none⟩ = some (.int .i64 z.rep) := hr.c 6 _ rfl; have z7 : w.cell? ⟨p, 7, none⟩ = some (.int .i64 z.msg) := hr.c 7 _ rfl; have z8 : w.cell? ⟨p, 8, none⟩ = some (.int .i64 z.til) := hr.c 8 _ rfl; have z9 : w.cell? ⟨p, 9, none⟩ = some (.bool b) := hr.c 9 _ rfl; go_simp; (try with_reducible rfl)
  try simp only [Act.put, List.setIfInBounds_toArray, List.set_cons_zero, List.set_cons_succ]
  refine Hl.takeL (i := 4) (d := 8) (v := ?_) rfl (by kernel_rfl) (by kernel_rfl) (by kernel_rfl) (fun _ _ _ h => h) (by rfl) ?_ (by first | assumption | trivial) ?_
  rotate_left
  · intro w hSw; have hr := hSw.1; have z3 : w.cell? ⟨p, 3, none⟩ = some (.int .i64 z.kind) := hr.c 3 _ rfl; have z4 : w.cell? ⟨p, 4, none⟩ = some (.int .i64 z.at_) := hr.c 4 _ rfl; have z5 : w.cell? ⟨p, 5, none⟩ = some (.int .i64 z.cycle) := hr.c 5 _ rfl; have z6 : w.cell? ⟨p, 6, none⟩ = some (.int .i64 z.rep) := hr.c 6 _ rfl; have z7 : w.cell? ⟨p, 7, none⟩ = some (.int .i64 z.msg) := hr.c 7 _ rfl; have z8 : w.cell? ⟨p, 8, none⟩ = some (.int .i64 z.til) := hr.c 8 _ rfl; have z9 : w.cell? ⟨p, 9, none⟩ = some (.bool b) := hr.c 9 _ rfl; go_simp; (try with_reducible rfl)
  try simp only [Act.put, List.setIfInBounds_toArray, List.set_cons_zero, List.set_cons_succ]
  refine Hl.takeL (i := 5) (d := 9) (v := ?_) rfl (by kernel_rfl) (by kernel_rfl) (by kernel_rfl) (fun _ _ _ h => h) (by rfl) ?_ (by first | assumption | trivial) ?_
  rotate_left
  · intro w hSw; have hr := hSw.1; have z3 : w.cell? ⟨p, 3, none⟩ = some (.int .i64 z.kind) := hr.c 3 _ rfl; have z4 : w.cell? ⟨p, 4, none⟩ = some (.int .i64 z.at_) := hr.c 4 _ rfl; have z5 : w.cell? ⟨p, 5, none⟩ = some (.int .i64 z.cycle) := hr.c 5 _ rfl; have z6 : w.cell? ⟨p, 6, none⟩ = some (.int .i64 z.rep) := hr.c 6 _ rfl; have z7 : w.cell? ⟨p, 7, none⟩ = some (.int .i64 z.msg) := hr.c 7 _ rfl; have z8 : w.cell? ⟨p, 8, none⟩ = some (.int .i64 z.til) := hr.c 8 _ rfl; have z9 : w.cell? ⟨p, 9, none⟩ = some (.bool b) := hr.c 9 _ rfl; go_simp; (try with_reducible rfl)
  try simp only [Act.put, List.setIfInBounds_toArray, List.set_cons_zero, List.set_cons_succ]
  refine Hl.takeL (i := 6) (d := 10) (v := ?_) rfl (by kernel_rfl) (by kernel_rfl) (by kernel_rfl) (fun _ _ _ h => h) (by rfl) ?_ (by first | assumption | trivial) ?_
  rotate_left
  · intro w hSw; have hr := hSw.1; have z3 : w.cell? ⟨p, 3, none⟩ = some (.int .i64 z.kind) := hr.c 3 _ rfl; have z4 : w.cell? ⟨p, 4, none⟩ = some (.int .i64 z.at_) := hr.c 4 _ rfl; have z5 : w.cell? ⟨p, 5, none⟩ = some (.int .i64 z.cycle) := hr.c 5 _ rfl; have z6 : w.cell? ⟨p, 6, none⟩ = some (.int .i64 z.rep) := hr.c 6 _ rfl; have z7 : w.cell? ⟨p, 7, none⟩ = some (.int .i64 z.msg) := hr.c 7 _ rfl; have z8 : w.cell? ⟨p, 8, none⟩ = some (.int .i64 z.til) := hr.c 8 _ rfl; have z9 : w.cell? ⟨p, 9, none⟩ = some (.bool b) := hr.c 9 _ rfl; go_simp; (try with_reducible rfl)
  try simp only [Act.put, List.setIfInBounds_toArray, List.set_cons_zero, List.set_cons_succ]
  refine Hl.takeL (i := 7) (d := 11) (v := ?_) rfl (by kernel_rfl) (by kernel_rfl) (by kernel_rfl) (fun _ _ _ h => h) (by rfl) ?_ (by first | assumption | trivial) ?_
  rotate_left
  · intro w hSw; have hr := hSw.1; have z3 : w.cell? ⟨p, 3, none⟩ = some (.int .i64 z.kind) := hr.c 3 _ rfl; have z4 : w.cell? ⟨p, 4, none⟩ = some (.int .i64 z.at_) := hr.c 4 _ rfl; have z5 : w.cell? ⟨p, 5, none⟩ = some (.int .i64 z.cycle) := hr.c 5 _ rfl; have z6 : w.cell? ⟨p, 6, none⟩ = some (.int .i64 z.rep) := hr.c 6 _ rfl; have z7 : w.cell? ⟨p, 7, none⟩ = some (.int .i64 z.msg) := hr.c 7 _ rfl; have z8 : w.cell? ⟨p, 8, none⟩ = some (.int .i64 z.til) := hr.c 8 _ rfl; have z9 : w.cell? ⟨p, 9, none⟩ = some (.bool b) := hr.c 9 _ rfl; go_simp; (try with_reducible rfl)
  try simp only [Act.put, List.setIfInBounds_toArray, List.set_cons_zero, List.set_cons_succ]
  refine Hl.consL (i := 8) rfl (by kernel_rfl) (fun K' hK' => ?_)
  obtain ⟨h1, ⟨y, h2⟩, h3⟩ := hHeld
  refine Hl.step_store_row rfl 36 (.tmp 2) (.tmp 7) rfl g (trA z) rfl rfl 36 _ h2 tinfo23 rfl (tr_one z) ?_
  have HRn : Hid (RowT 36 (v0.setRow g (trA z)) g (trA z)) := setRow_heap _ _ _ _ _ _ h2
  have HMn : Hid (RowT 56 (v0.setRow g (trA z)) p (xsC a c s.plan.length s.cycle s.at_ z b)) := (setRow_other _ _ _ _ (by omega)).trans h1
  have HBn : Hid (Below g w (v0.setRow g (trA z))) := below_setRow h3 (Nat.le_refl _) _
  refine hK'.out _ _ ⟨HMn.out, ⟨_, HRn.out⟩, HBn.out⟩ (fun hHeld => ?_)
  clear hK' K' h1 h2 h3
  refine Hl.takeL (i := 9) (d := 3) (v := ?_) rfl (by kernel_rfl) (by kernel_rfl) (by kernel_rfl) (fun _ _ _ h => h) (by rfl) ?_ (by first | assumption | trivial) ?_
  rotate_left
  · intro w hSw; skip; go_simp; (try with_reducible rfl)
  try simp only [Act.put, List.setIfInBounds_toArray, List.set_cons_zero, List.set_cons_succ]
  refine wpAnyH_done (by kernel_rfl) ?_ _
  clear hHeld HMn
  generalize v0.setRow g (trA z) = v2 at HRn HBn ⊢
  have r0 : v2.cell? ⟨g, 0, none⟩ = some (.int .i64 z.kind) := HRn.out.c 0 _ rfl
  have r1 : v2.cell? ⟨g, 1, none⟩ = some (.int .i64 z.at_) := HRn.out.c 1 _ rfl
  have r2 : v2.cell? ⟨g, 2, none⟩ = some (.int .i64 z.cycle) := HRn.out.c 2 _ rfl
  have r3 : v2.cell? ⟨g, 3, none⟩ = some (.int .i64 z.rep) := HRn.out.c 3 _ rfl
  have r4 : v2.cell? ⟨g, 4, none⟩ = some (.int .i64 z.msg) := HRn.out.c 4 _ rfl
  have r5 : v2.cell? ⟨g, 5, none⟩ = some (.int .i64 z.til) := HRn.out.c 5 _ rfl
  go_wp2_with fail
  exact bodyPost_ret (v := .tuple #[.agg (trA z), .bool b]) (by simp [results, Tryd.results16, go_sem, r0, r1, r2, r3, r4, r5]) rfl ⟨by rw [HV.out], by rw [hg]; exact HBn.out⟩
set_option maxRecDepth 100000 in
set_option maxHeartbeats 4000000 in
theorem xs_new (V w : World) (hT : Tab w) (m : Mx.M) (a : Ma) (who : Int) (hb : Below V.heap.size V w) (hm : MIn V m a) (hS : Mx.Small m) (hwf : Mx.Wf m) (hwho : (Lit.int .i64 who).wf = true) : Oq.MakesR Tryd.prog SchedAt 9 #[mV m a, .int .i64 who] V w (Q23.mk m who) := by
  have HX : Hid (Bx w (w.alloc (.cells (mCs m a) 27)) w.heap.size m a) := Bx.mk' (hm.on hb)
  have HP : Hid (∀ w', Bx w w' w.heap.size m a → TellsN Tryd.prog 21 #[mV m a, .int .i64 who] w' (Yq.plan m who)) := fun w' h => pk_planN w' (hT.below h.below) m a who h.mem hS hwf hwho
  obtain ⟨y0, y1, y2, y3, y4, y5, y6, y7, y8, y9, y10⟩ := HX.out.row.mat
  have HO : Hid (XsOk (Q23.mk m who)) := ⟨xs_planwf m who, Yq.plan_len m who hS, rfl⟩
  obtain ⟨l, hl⟩ : ∃ l, Yq.plan m who = l := ⟨_, rfl⟩
  obtain ⟨S, hS2⟩ : ∃ S, Q23.mk m who = S := ⟨_, rfl⟩
  have HE : Hid (S = ⟨l, 0, -1, none⟩) := by
    show _ = _
    rw [← hS2, ← hl]
    rfl
  rw [hl] at HP
  rw [hS2] at HO
  unfold Oq.MakesR
  rw [hS2]
  clear hl hS2 hb hm hS hwf hwho hT
  go_enter Tryd.func9, Tryd.ntmps9
  go_wp2_with fail
  refine (HP.out _ HX.out).mono ?_
  rintro e w1 ⟨s, c, n, hn, rfl, hol, hb1⟩
  have HB : Hid (Below w.heap.size w w1) := HX.out.below.trans (hb1.mono HX.out.below.size)
  have HOl : Hid (Sg.OL 36 6 w.heap.size w1 s c n (l.flatMap tC)) := hol.mono HX.out.below.size
  have HNn : Hid (n = l.length) := hn
  clear hn hol hb1 HX HP y0 y1 y2 y3 y4 y5 y6 y7 y8 y9 y10
  go_wp2
  go_ret
  obtain rfl := HNn.out
  obtain ⟨R, hL, hR⟩ := Oq.Lst.of HOl.out.sl.li
  have hba : Below w1.heap.size w1 (w1.alloc (.cells (xsC s c l.length 0 (-1) Q23.tz false) 56)) := (Below.refl _ _).alloc (Nat.le_refl _) _
  refine ⟨R, w1.heap.size, fun j => j = w1.heap.size, rfl, fun x hx => ?_, fun x hx => ?_, ?_, ?_, HB.out.alloc HB.out.size _, fun x hx => ?_⟩
  · obtain ⟨h1, _⟩ := hR x hx
    exact (hba.block _ (Array.getElem?_eq_some_iff.1 h1).1).trans h1
  · obtain ⟨h1, _⟩ := hR x hx
    have := (Array.getElem?_eq_some_iff.1 h1).1
    show ¬ x.1 = w1.heap.size
    omega
  · rw [HE.out]
    exact ⟨rfl, by rw [← HE.out]; exact HO.out, s, c, hL, RowT.new _ _ _⟩
  · intro g hg
    have hg' : g = w1.heap.size := hg
    have := HB.out.size
    omega
  · obtain ⟨h1, o, h0, ha⟩ := hR x hx
    left
    obtain ⟨g', o', cur, e1, hB, hh⟩ := HOl.out.ty (Nat.lt_of_lt_of_le h0 HOl.out.sl.li.1)
    rw [e1] at ha
    injection ha with ha
    injection ha with ha
    omega
set_option maxRecDepth 100000 in
set_option maxHeartbeats 4000000 in
theorem xs_now (R : Oq.Rs) (w : World) (hT : Tab w) (hR : Oq.Rows R w) (p : Nat) (F : Nat → Prop) (s : Q23.St) (n : Int) (h : SchedAt R w p F s) : Oq.TurnsL Tryd.prog (SchedAt R) 15 #[Ob.ptr p, .int .i64 n] w p F (Q23.now s n) (Q23.told s n).length ((Q23.told s n).flatMap tC) := by
  obtain ⟨rfl, ok, a, c, hl, h⟩ := h
  by_cases hlt : n < s.at_
  · rw [Q23.now_lo hlt, Q23.told_lo hlt]
    have HO : Hid (XsOk s) := ok
    have HL : Hid (Oq.Lst R a c s.plan.length (s.plan.flatMap tC)) := hl
    have HM : Hid (RowT 56 w p (xsC a c s.plan.length s.cycle s.at_ (s.op.getD Q23.tz) s.op.isSome)) := h
    have c2 : w.cell? ⟨p, 2, none⟩ = some (.int .i64 s.at_) := h.c 2 _ rfl
    have hd : decide (n < s.at_) = true := decide_eq_true hlt
    clear h ok hl hR hT
    unfold Oq.TurnsL
    show Calls _ _ _ _ fun e w' => ∃ a c F', e = .returned (.slice a 0 c) ∧ _
    go_enter Tryd.func15, Tryd.ntmps15
    go_wp2
    go_ret
    exact ⟨none, 0, _, rfl, ⟨Nat.le_refl _, Nat.zero_le _, Or.inl rfl⟩, fun g o h0 _ => absurd h0 (Nat.lt_irrefl _), ⟨rfl, HO.out, a, c, HL.out, HM.out⟩, fun g hg => Or.inl hg, Kept.refl _ _⟩
  · have HDl : Hid ((Q23.told s n).length ≤ 1000) := Nat.le_trans (Q23.told_le s n) ok.len
    rw [Q23.now_hi hlt]
    rw [Q23.told_hi hlt] at HDl ⊢
    have HO : Hid (∀ o, XsOk ⟨s.plan, s.cycle, n, o⟩) := fun o => ⟨ok.wf, ok.len, ok.cy⟩
    have HL : Hid (Oq.Lst R a c s.plan.length (s.plan.flatMap tC)) := hl
    have HDu : Hid (∀ w', Below w.heap.size w w' → TellsN Tryd.prog 27 #[.slice a s.plan.length c, .int .i64 s.cycle, .int .i64 s.at_, .int .i64 n] w' (Yq.due s.plan s.cycle s.at_ n)) := fun w' hb => pk_dueN w' s.plan a c s.cycle s.at_ n ((hl.li hR).on hb) ok.len ok.wf ok.cy
    have HM : Hid (RowT 56 w p (xsC a c s.plan.length s.cycle s.at_ (s.op.getD Q23.tz) s.op.isSome)) := h
    have hp : p < w.heap.size := h.lt
    have c2 : w.cell? ⟨p, 2, none⟩ = some (.int .i64 s.at_) := h.c 2 _ rfl
    have hd : decide (n < s.at_) = false := decide_eq_false hlt
    clear h ok hl hR hT hlt
    obtain ⟨D, hD⟩ : ∃ D, Yq.due s.plan s.cycle s.at_ n = D := ⟨_, rfl⟩
    rw [hD] at HDl HDu ⊢
    clear hD
    obtain ⟨pl, cy, at_, op⟩ := s
    dsimp only at *
    generalize hPL : pl.length = PL at *
    unfold Oq.TurnsL
    go_enter Tryd.func15, Tryd.ntmps15
    go_upto_region 3 with fail
    refine wp_region_held_drew (S := fun w' => RowT 56 w' p (xsC a c PL cy at_ (op.getD Q23.tz) op.isSome) ∧ Below w.heap.size w w') (by kernel_rfl) ⟨HM.out.on (Below.refl _ _).drew, (Below.refl _ _).drew⟩ (fun hHeld => ?_)
    clear HM c2
    generalize World.drew _ = v0 at hHeld ⊢
    refine Hl.takeL (i := 0) (d := 12) (v := ?_) rfl (by kernel_rfl) (by kernel_rfl) (by kernel_rfl) (fun _ _ _ h => h) (by rfl) ?_ (by first | assumption | trivial) ?_
    rotate_left
    · intro w hSw; skip; go_simp; (try with_reducible rfl)
    try simp only [Act.put, List.setIfInBounds_toArray, List.set_cons_zero, List.set_cons_succ]
    refine Hl.takeL (i := 1) (d := 13) (v := ?_) rfl (by kernel_rfl) (by kernel_rfl) (by kernel_rfl) (fun _ _ _ h => h) (by rfl) ?_ (by first | assumption | trivial) ?_
    rotate_left
    · intro w hSw; skip; go_simp; (try with_reducible rfl)
    try simp only [Act.put, List.setIfInBounds_toArray, List.set_cons_zero, List.set_cons_succ]
    refine Hl.takeL (i := 2) (d := 14) (v := ?_) rfl (by kernel_rfl) (by kernel_rfl) (by kernel_rfl) (fun _ _ _ h => h) (by rfl) ?_ (by first | assumption | trivial) ?_
    rotate_left
    · intro w hSw; skip; go_simp; (try with_reducible rfl)
    try simp only [Act.put, List.setIfInBounds_toArray, List.set_cons_zero, List.set_cons_succ]
    refine Hl.takeL (i := 3) (d := 15) (v := ?_) rfl (by kernel_rfl) (by kernel_rfl) (by kernel_rfl) (fun _ _ _ h => h) (by rfl) ?_ (by first | assumption | trivial) ?_
    rotate_left
    · intro w hSw; have z0 := hSw.1.c 0 _ rfl; have z1 := hSw.1.c 1 _ rfl; have z2 := hSw.1.c 2 _ rfl; go_simp; (try with_reducible rfl)
    try simp only [Act.put, List.setIfInBounds_toArray, List.set_cons_zero, List.set_cons_succ]
    refine Hl.takeL (i := 4) (d := 16) (v := ?_) rfl (by kernel_rfl) (by kernel_rfl) (by kernel_rfl) (fun _ _ _ h => h) (by rfl) ?_ (by first | assumption | trivial) ?_
    rotate_left
    · intro w hSw; skip; go_simp; (try with_reducible rfl)
    try simp only [Act.put, List.setIfInBounds_toArray, List.set_cons_zero, List.set_cons_succ]
    refine Hl.takeL (i := 5) (d := 17) (v := ?_) rfl (by kernel_rfl) (by kernel_rfl) (by kernel_rfl) (fun _ _ _ h => h) (by rfl) ?_ (by first | assumption | trivial) ?_
    rotate_left
    · intro w hSw; skip; go_simp; (try with_reducible rfl)
    try simp only [Act.put, List.setIfInBounds_toArray, List.set_cons_zero, List.set_cons_succ]
    refine Hl.takeL (i := 6) (d := 18) (v := ?_) rfl (by kernel_rfl) (by kernel_rfl) (by kernel_rfl) (fun _ _ _ h => h) (by rfl) ?_ (by first | assumption | trivial) ?_
    rotate_left
    · intro w hSw; skip; go_simp; (try with_reducible rfl)
    try simp only [Act.put, List.setIfInBounds_toArray, List.set_cons_zero, List.set_cons_succ]
    refine Hl.takeL (i := 7) (d := 19) (v := ?_) rfl (by kernel_rfl) (by kernel_rfl) (by kernel_rfl) (fun _ _ _ h => h) (by rfl) ?_ (by first | assumption | trivial) ?_
    rotate_left
    · intro w hSw; have z0 := hSw.1.c 0 _ rfl; have z1 := hSw.1.c 1 _ rfl; have z2 := hSw.1.c 2 _ rfl; go_simp; (try with_reducible rfl)
    try simp only [Act.put, List.setIfInBounds_toArray, List.set_cons_zero, List.set_cons_succ]
    refine Hl.takeL (i := 8) (d := 20) (v := ?_) rfl (by kernel_rfl) (by kernel_rfl) (by kernel_rfl) (fun _ _ _ h => h) (by rfl) ?_ (by first | assumption | trivial) ?_
    rotate_left
    · intro w hSw; skip; go_simp; (try with_reducible rfl)
    try simp only [Act.put, List.setIfInBounds_toArray, List.set_cons_zero, List.set_cons_succ]
    refine Hl.takeL (i := 9) (d := 21) (v := ?_) rfl (by kernel_rfl) (by kernel_rfl) (by kernel_rfl) (fun _ _ _ h => h) (by rfl) ?_ (by first | assumption | trivial) ?_
    rotate_left
    · intro w hSw; skip; go_simp; (try with_reducible rfl)
    try simp only [Act.put, List.setIfInBounds_toArray, List.set_cons_zero, List.set_cons_succ]
    refine Hl.takeL (i := 10) (d := 22) (v := ?_) rfl (by kernel_rfl) (by kernel_rfl) (by kernel_rfl) (fun _ _ _ h => h) (by rfl) ?_ (by first | assumption | trivial) ?_
    rotate_left
    · intro w hSw; skip; go_simp; (try with_reducible rfl)
    try simp only [Act.put, List.setIfInBounds_toArray, List.set_cons_zero, List.set_cons_succ]
    refine Hl.takeL (i := 11) (d := 23) (v := ?_) rfl (by kernel_rfl) (by kernel_rfl) (by kernel_rfl) (fun _ _ _ h => h) (by rfl) ?_ (by first | assumption | trivial) ?_
    rotate_left
    · intro w hSw; have z0 := hSw.1.c 0 _ rfl; have z1 := hSw.1.c 1 _ rfl; have z2 := hSw.1.c 2 _ rfl; go_simp; (try with_reducible rfl)
    try simp only [Act.put, List.setIfInBounds_toArray, List.set_cons_zero, List.set_cons_succ]
    refine Hl.takeL (i := 12) (d := 24) (v := ?_) rfl (by kernel_rfl) (by kernel_rfl) (by kernel_rfl) (fun _ _ _ h => h) (by rfl) ?_ (by first | assumption | trivial) ?_
    rotate_left
    · intro w hSw; skip; go_simp; (try with_reducible rfl)
    try simp only [Act.put, List.setIfInBounds_toArray, List.set_cons_zero, List.set_cons_succ]
    refine Hl.consL (i := 13) rfl (by kernel_rfl) (fun K' hK' => ?_)
    go_simp
    go_at_call 27
    refine (HDu.out _ hHeld.2).mono ?_
    rintro e w2 ⟨s2, c2, n2, hn2, rfl, hol, hb2⟩
    go_simp
    have HB2 : Hid (Below w.heap.size w w2) := hHeld.2.trans (hb2.mono hHeld.2.size)
    have HM2 : Hid (RowT 56 w2 p (xsC a c PL cy at_ (op.getD Q23.tz) op.isSome)) := hHeld.1.on hb2
    have HOl : Hid (Sg.OL 36 6 w.heap.size w2 s2 c2 n2 (D.flatMap tC)) := hol.mono hHeld.2.size
    have HNn : Hid (n2 = D.length) := hn2
    refine hK'.out _ _ ⟨HM2.out, HB2.out⟩ (fun hHeld => ?_)
    clear hK' K' hb2 hol hn2 HDu
    try simp only [Act.put, List.setIfInBounds_toArray, List.set_cons_zero, List.set_cons_succ]
    refine Hl.takeL (i := 14) (d := 5) (v := ?_) rfl (by kernel_rfl) (by kernel_rfl) (by kernel_rfl) (fun _ _ _ h => h) (by rfl) ?_ (by first | assumption | trivial) ?_
    rotate_left
    · intro w hSw; skip; go_simp; (try with_reducible rfl)
    try simp only [Act.put, List.setIfInBounds_toArray, List.set_cons_zero, List.set_cons_succ]
    refine wpAnyH_done (by kernel_rfl) ?_ _
    clear hHeld
    obtain rfl := HNn.out
    have HFr : Hid (∀ g o, 0 < D.length → s2 = some ⟨g, o, none⟩ → w.heap.size ≤ g ∧ ¬ g = p) := fun g o h0 ha => by
      obtain ⟨g', o', cur, e1, hB, hh⟩ := HOl.out.ty (Nat.lt_of_lt_of_le h0 HOl.out.sl.li.1)
      rw [e1] at ha
      injection ha with ha
      injection ha with ha
      omega
    have HLi : Hid (∀ w', Kept (fun j => j = p) w2 w' → LI w' s2 c2 D.length (D.flatMap tC)) := fun w' hk => HOl.out.sl.li.kept hk (fun q h0 hq => by
      obtain ⟨g', o', cur, e1, hB, hh⟩ := HOl.out.ty (Nat.lt_of_lt_of_le h0 HOl.out.sl.li.1)
      rw [e1] at hq
      injection hq with hq
      subst hq
      show ¬ g' = p
      omega)
    have HK : Hid (Kept (fun j => j = p) w w2) := Kept.of_below HB2.out
    have m2 := HM2.out.c 2 _ rfl
    have f2 := HM2.out.f 2
    have HM3 : Hid (RowT 56 (w2.setCell ⟨p, 2, none⟩ (.int .i64 n)) p (xsC a c PL cy n (op.getD Q23.tz) op.isSome)) := HM2.out.set 2 _
    have HK3 : Hid (Kept (fun j => j = p) w2 (w2.setCell ⟨p, 2, none⟩ (.int .i64 n))) := (Kept.refl _ _).sets
    clear HNn HOl HM2 HB2
    go_wp2_with fail
    refine (xs_last _ p a c PL cy n op D s2 c2 HM3.out (HLi.out _ HK3.out) HDl.out).mono ?_
    rintro e w3 ⟨rfl, h3, hk3⟩
    have HM4 : Hid (RowT 56 w3 p (xsC a c PL cy n ((Q23.lastO op D).getD Q23.tz) (Q23.lastO op D).isSome)) := h3
    have HK4 : Hid (Kept (fun j => j = p) w2 w3) := HK3.out.trans hk3 (fun g hg => Or.inl hg)
    clear h3 hk3 HM3 HK3 m2 f2
    go_wp2
    go_ret
    subst hPL
    exact ⟨s2, c2, _, rfl, HLi.out _ HK4.out, HFr.out, ⟨rfl, HO.out _, a, c, HL.out, HM4.out⟩, fun g hg => Or.inl hg, HK.out.trans HK4.out (fun g hg => Or.inl hg)⟩
theorem schedSpec : SchedSpec Tab SchedAt where
  is := schedIs
  new := fun V w m a who hT hb hm hS hwf hwho => xs_new V w hT m a who hb hm hS hwf hwho
  begin_ := fun R w p F s n _ _ hn h => xs_begin R w p F s n hn h
  now := fun R w p F s n hT hR _ h => xs_now R w hT hR p F s n h
  open_ := fun R w p F s _ _ h => xs_open R w p F s h
  close := fun R w p F s _ _ h => xs_close R w p F s h
  over := fun R w p F s n _ _ _ h => xs_over R w p F s n h
  copy := fun R w p F s _ _ h => xs_copy R w p F s h
end Go.Proofs.YtnbfnipdiffphaaDoor
