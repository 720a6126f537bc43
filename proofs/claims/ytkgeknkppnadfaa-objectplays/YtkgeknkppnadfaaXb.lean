/- Package object, landed: what lies where; is, isOwn, at, lay, maps.Clone. -/
import Derived.Test.YtkgeknkppnadfaaXa
import Derived.Test.YtkgeknkppnadfaaXm
import Derived.Test.YtkgeknkppnadfaaA18
import Derived.BigQuiet
import Derived.WalkKit
import Derived.WalkSpells
namespace Go.Proofs.Ytkgeknkppnadfaa
open Go.RowKit Go.WideShapes
set_option linter.unusedVariables false
set_option maxRecDepth 100000
structure Ox (V w : World) (p : Nat) (s : Q18.St) (a : Option Addr) (c b1 b2 q : Nat) (H : Nat → Prop) : Prop where
  row : RowT 73 w p #[.int .i64 s.who, .slice a s.l.length c, .map (some b1), .map (some b2), Ob.ptr q]
  m1 : Mw.Is w b1 s.own
  m2 : Mw.Is w b2 s.came
  q : QueueAt w q H s.q
  ne : b1 ≠ b2
  apart : ∀ g, H g → g ≠ p ∧ g ≠ b1 ∧ g ≠ b2
  ok : Q18.Ok s
  msgs : LI V a c s.l.length (s.l.flatMap mC2)
def ObjectAt (V : World) : Ob.A Q18.St := fun w p F s => ∃ a c b1 b2 q H, (∀ g, F g ↔ g = p ∨ g = b1 ∨ g = b2 ∨ H g) ∧ Ox V w p s a c b1 b2 q H
section
variable {V w w' : World} {p : Nat} {s : Q18.St} {a : Option Addr} {c b1 b2 q : Nat} {H H' : Nat → Prop}
theorem Ox.same (h : Ox V w p s a c b1 b2 q H) (hk : ∀ g, g = p ∨ g = b1 ∨ g = b2 ∨ H g → w'.heap[g]? = w.heap[g]?) : Ox V w' p s a c b1 b2 q H :=
  ⟨(hk p (by simp)).trans h.row, h.m1.same (hk b1 (by simp)), h.m2.same (hk b2 (by simp)), queue_is.on h.q (fun g hg => hk g (by simp [hg])), h.ne, h.apart, h.ok, h.msgs⟩
theorem Ox.lt (h : Ox V w p s a c b1 b2 q H) (g : Nat) (hg : g = p ∨ g = b1 ∨ g = b2 ∨ H g) : g < w.heap.size := by
  rcases hg with rfl | rfl | rfl | hg
  · exact h.row.lt
  · exact h.m1.lt
  · exact h.m2.lt
  · exact queue_is.lt h.q g hg
theorem Ox.on (h : Ox V w p s a c b1 b2 q H) (hb : Below w.heap.size w w') : Ox V w' p s a c b1 b2 q H := h.same (fun g hg => hb.block g (h.lt g hg))
theorem Ox.np (h : Ox V w p s a c b1 b2 q H) : b1 ≠ p ∧ b2 ≠ p := ⟨h.m1.row h.row, h.m2.row h.row⟩
theorem Ox.at_ (h : Ox V w p s a c b1 b2 q H) : ObjectAt V w p (fun g => g = p ∨ g = b1 ∨ g = b2 ∨ H g) s := ⟨a, c, b1, b2, q, H, fun g => Iff.rfl, h⟩
/-- The queue has turned. -/
theorem Ox.queue (h : Ox V w p s a c b1 b2 q H) {t : Vq.St} (hq : QueueAt w' q H' t) (hs : ∀ g, H' g → H g ∨ w.heap.size ≤ g) (hk : Kept H w w') : Ox V w' p { s with q := t } a c b1 b2 q H' := by
  have hn : ¬ H p ∧ ¬ H b1 ∧ ¬ H b2 := ⟨fun e => (h.apart _ e).1 rfl, fun e => (h.apart _ e).2.1 rfl, fun e => (h.apart _ e).2.2 rfl⟩
  refine ⟨(hk.block _ h.row.lt hn.1).trans h.row, h.m1.same (hk.block _ h.m1.lt hn.2.1), h.m2.same (hk.block _ h.m2.lt hn.2.2), hq, h.ne, fun g hg => ?_, ⟨h.ok.n, h.ok.own, h.ok.came, queueSpec.ok hq⟩, h.msgs⟩
  rcases hs g hg with hg | hg
  · exact h.apart g hg
  · have := h.row.lt; have := h.m1.lt; have := h.m2.lt; omega
/-- A map has turned. -/
theorem Ox.own (h : Ox V w p s a c b1 b2 q H) {k : Int} {d : ByteArray} (hm : Mw.Is w' b1 (Q18.put s.own k d)) (hk : Kept (fun j => j = b1) w w') : Ox V w' p { s with own := Q18.put s.own k d } a c b1 b2 q H :=
  ⟨(hk.block _ h.row.lt (fun e => h.np.1 e.symm)).trans h.row, hm, h.m2.same (hk.block _ h.m2.lt (fun e => h.ne e.symm)), queue_is.on h.q (fun g hg => hk.block g (queue_is.lt h.q g hg) (h.apart g hg).2.1), h.ne, h.apart, ⟨h.ok.n, (Q18.len_put _ _ _).trans h.ok.own, h.ok.came, h.ok.q⟩, h.msgs⟩
theorem Ox.came (h : Ox V w p s a c b1 b2 q H) {k : Int} {d : ByteArray} (hm : Mw.Is w' b2 (Q18.put s.came k d)) (hk : Kept (fun j => j = b2) w w') : Ox V w' p { s with came := Q18.put s.came k d } a c b1 b2 q H :=
  ⟨(hk.block _ h.row.lt (fun e => h.np.2 e.symm)).trans h.row, h.m1.same (hk.block _ h.m1.lt h.ne), hm, queue_is.on h.q (fun g hg => hk.block g (queue_is.lt h.q g hg) (h.apart g hg).2.2), h.ne, h.apart, ⟨h.ok.n, h.ok.own, (Q18.len_put _ _ _).trans h.ok.came, h.ok.q⟩, h.msgs⟩
end
theorem objectIs (V : World) : Ob.Is (ObjectAt V) where
  on := fun {w w' p F s} ⟨a, c, b1, b2, q, H, hF, h⟩ hk => ⟨a, c, b1, b2, q, H, hF, h.same (fun g hg => hk g ((hF g).2 hg))⟩
  lt := fun {w p F s} ⟨a, c, b1, b2, q, H, hF, h⟩ g hg => h.lt g ((hF g).1 hg)
theorem ms_at {w : World} {a : Option Addr} {c : Nat} {l : List Mx.Msg} (h : LI w a c l.length (l.flatMap mC2)) {i : Nat} {x : Mx.Msg} (hx : l[i]? = some x) : ∃ g o, a = some ⟨g, o, none⟩ ∧ w.cell? ⟨g, o + i * 3 + 1, none⟩ = some (.int .i64 x.owner) ∧ w.cell? ⟨g, o + i * 3 + 2, none⟩ = some (.bool x.event) := by
  obtain ⟨g, o, hs, hg, hc⟩ := h.at (sz := 3) (fun _ => rfl) i x hx
  refine ⟨g, o, hs, ?_, ?_⟩
  · have := hc 1 _ rfl; rwa [← Nat.add_assoc] at this
  · have := hc 2 _ rfl; rwa [← Nat.add_assoc] at this
def Q18.own? (s : Q18.St) (k : Int) : Bool := match Q18.msgAt s k with
  | none => false
  | some x => x.owner == s.who
set_option maxHeartbeats 4000000 in
theorem oj_is (w : World) (p n c : Nat) (a : Option Addr) (v0 v2 v3 v4 : Value) (k : Int) (h : RowT 73 w p #[v0, .slice a n c, v2, v3, v4]) : Calls Try.prog 37 #[Ob.ptr p, .int .i64 k] w fun e w' => e = .returned (.bool (Q18.inn n k)) ∧ w' = w := by
  have c1 : w.cell? ⟨p, 1, none⟩ = some (.slice a n c) := h.c 1 _ rfl
  clear h
  by_cases h0 : 0 ≤ k
  · have d0 : decide (0 ≤ k) = true := decide_eq_true h0
    have e : Q18.inn n k = decide (k < (n : Int)) := by unfold Q18.inn; rw [d0]; rfl
    rw [e]
    clear e
    go_enter Try.func37, Try.ntmps37
    go_wp2
    go_ret
    exact ⟨rfl, rfl⟩
  · have d0 : decide (0 ≤ k) = false := decide_eq_false h0
    have e : Q18.inn n k = false := by unfold Q18.inn; rw [d0]; rfl
    rw [e]
    clear e
    go_enter Try.func37, Try.ntmps37
    go_wp2
    go_ret
    exact ⟨rfl, rfl⟩
set_option maxHeartbeats 4000000 in
theorem oj_own (w : World) (p c : Nat) (a : Option Addr) (v2 v3 v4 : Value) (s : Q18.St) (k : Int) (h : RowT 73 w p #[.int .i64 s.who, .slice a s.l.length c, v2, v3, v4]) (hl : LI w a c s.l.length (s.l.flatMap mC2)) : Calls Try.prog 29 #[Ob.ptr p, .int .i64 k] w fun e w' => e = .returned (.bool (Q18.own? s k)) ∧ Below w.heap.size w w' := by
  have HI : Hid (∀ w', Below w.heap.size w w' → Calls Try.prog 37 #[Ob.ptr p, .int .i64 k] w' fun e w'' => e = .returned (.bool (Q18.inn s.l.length k)) ∧ w'' = w') := fun w' hb => oj_is w' p _ c a _ _ _ _ k (h.on hb)
  have c0 : w.cell? ⟨p, 0, none⟩ = some (.int .i64 s.who) := h.c 0 _ rfl
  have c1 : w.cell? ⟨p, 1, none⟩ = some (.slice a s.l.length c) := h.c 1 _ rfl
  clear h
  by_cases hin : 0 ≤ k ∧ k < (s.l.length : Int)
  · obtain ⟨n, rfl⟩ : ∃ n : Nat, k = (n : Int) := ⟨k.toNat, by omega⟩
    have hn : n < s.l.length := by omega
    obtain ⟨g, o, rfl, m1, m2⟩ := ms_at hl (List.getElem?_eq_getElem hn)
    have e : Q18.own? s (n : Int) = (s.l[n].owner == s.who) := by unfold Q18.own?; rw [Q18.msg_nat, List.getElem?_eq_getElem hn]
    rw [e]
    rw [Q18.inn_iff.2 hin] at HI
    generalize s.l[n].owner = ow at m1 ⊢
    generalize s.who = wh at c0 ⊢
    clear e hin hl m2
    generalize s.l.length = N at c1 hn HI
    have hni : (n : Int) < (N : Int) := by omega
    go_enter Try.func29, Try.ntmps29
    go_wp2_with fail
    go_quiet (first | (go_at_call 37; exact Calls.quiet_of_same (HI.out _ (below_drewN (Below.refl _ _) _))) | fail)
    go_wp2
    go_ret
    exact ⟨rfl, below_drewN (Below.refl _ _) _⟩
  · have e : Q18.own? s k = false := by unfold Q18.own?; rw [Q18.msg_no hin]
    rw [e]
    rw [Q18.inn_no hin] at HI
    clear e hl hin
    generalize s.l.length = N at c1 HI
    generalize s.who = wh at c0
    go_enter Try.func29, Try.ntmps29
    go_wp2_with fail
    go_quiet (first | (go_at_call 37; exact Calls.quiet_of_same (HI.out _ (below_drewN (Below.refl _ _) _))) | fail)
    go_wp2
    go_ret
    exact ⟨rfl, below_drewN (Below.refl _ _) _⟩
set_option maxHeartbeats 4000000 in
theorem oj_lay (w : World) (b : Nat) (D : Q18.Da) (k : Int) (d : ByteArray) (h : Mw.Is w b D) (hk : (Lit.int .i64 k).wf = true) (hin : Q18.inn D.length k = true) : Calls Try.prog 31 #[.map (some b), .int .i64 k, .string d] w fun e w' => e = .returned (.tuple #[]) ∧ Mw.Is w' b (Q18.put D k d) ∧ Kept (fun j => j = b) w w' := by
  have HM : Hid (Mw.Is w b D) := h
  clear h
  go_enter Try.func31, Try.ntmps31
  go_wp2_with (at_mapUpdate; refine Mw.wp_put rfl _ _ _ rfl b D k d rfl rfl rfl HM.out hk hin ?_; intro w1 hm1 hk1)
  go_wp2
  go_end0
  exact ⟨rfl, hm1, hk1⟩
set_option maxHeartbeats 4000000 in
theorem oj_at (w : World) (b : Nat) (D : Q18.Da) (k : Int) (h : Mw.Is w b D) (hk : (Lit.int .i64 k).wf = true) : Calls Try.prog 39 #[.map (some b), .int .i64 k] w fun e w' => e = .returned (.tuple #[.string ((Q18.get D k).getD ByteArray.empty), .bool (Q18.get D k).isSome]) ∧ Below w.heap.size w w' := by
  have HM : Hid (Mw.Is w b D) := h
  clear h
  go_enter Try.func39, Try.ntmps39
  go_wp2_with (at_lookup; refine Mw.wp_look rfl _ _ rfl b D k rfl rfl HM.out hk ?_)
  go_wp2
  go_ret2
  exact ⟨rfl, by first | exact ((Below.refl _ _).alloc (Nat.le_refl _) _).setCell (Nat.le_refl _) _ | exact (Below.refl _ _).alloc (Nat.le_refl _) _⟩
set_option maxHeartbeats 4000000 in
theorem oj_clone (w : World) (b : Nat) (D : Q18.Da) (h : Mw.Is w b D) : Calls Try.prog 27 #[.map (some b)] w fun e w' => e = .returned (.map (some w.heap.size)) ∧ Mw.Is w' w.heap.size D ∧ Below w.heap.size w w' := by
  obtain ⟨es, c, hb, h1⟩ := h.clone
  have hq := fun w => run_eql_map_nil_sl (P := Try.prog) w 69 _ _ (some b) Mw.mu
  have HZ : Hid (Mw.Is (w.alloc (.map es c)) w.heap.size D) := h1
  clear h h1
  go_enter Try.func27, Try.ntmps27
  go_wp2
  rw [run_callFunc_extern Try.func44 (by kernel_rfl) (by kernel_rfl) (by kernel_rfl) (e := Extern.MapsClone.clone) (by kernel_rfl), run_maps_clone_sl w 69 hb]
  simp only [Result.andThen]
  rw [Oper.upon_value]
  go_wp2
  rw [run_typeAssert_map_sl _ 69 _ _ _ _ Mw.mu]
  simp only [Result.andThen]
  rw [Oper.upon_value]
  go_wp2
  go_ret
  exact ⟨rfl, HZ.out, (Below.refl _ _).alloc (Nat.le_refl _) _⟩
end Go.Proofs.Ytkgeknkppnadfaa
