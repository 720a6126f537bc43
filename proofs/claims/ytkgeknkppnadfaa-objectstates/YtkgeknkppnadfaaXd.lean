/- Package object, landed: what tells or lays one thing. -/
import Derived.Test.YtkgeknkppnadfaaXb
namespace Go.Proofs.Ytkgeknkppnadfaa
open Go.RowKit Go.WideShapes
set_option linter.unusedVariables false
set_option maxRecDepth 100000
theorem Ox.cells {V w : World} {p : Nat} {s : Q18.St} {a : Option Addr} {c b1 b2 q : Nat} {H : Nat → Prop} (h : Ox V w p s a c b1 b2 q H) : w.cell? ⟨p, 0, none⟩ = some (.int .i64 s.who) ∧ w.cell? ⟨p, 1, none⟩ = some (.slice a s.l.length c) ∧ w.cell? ⟨p, 2, none⟩ = some (.map (some b1)) ∧ w.cell? ⟨p, 3, none⟩ = some (.map (some b2)) ∧ w.cell? ⟨p, 4, none⟩ = some (Ob.ptr q) :=
  ⟨h.row.c 0 _ rfl, h.row.c 1 _ rfl, h.row.c 2 _ rfl, h.row.c 3 _ rfl, h.row.c 4 _ rfl⟩
def Oz (V W w : World) (p : Nat) (F : Nat → Prop) (s : Q18.St) : Prop := ∃ F', ObjectAt V w p F' s ∧ (∀ g, F' g → F g ∨ W.heap.size ≤ g) ∧ Kept F W w
section
variable {V W w w' : World} {p : Nat} {F : Nat → Prop} {s : Q18.St} {a : Option Addr} {c b1 b2 q : Nat} {H H' : Nat → Prop}
theorem Ox.z (h : Ox V w p s a c b1 b2 q H) (hF : ∀ g, F g ↔ g = p ∨ g = b1 ∨ g = b2 ∨ H g) (hb : Below w.heap.size w w') : Oz V w w' p F s :=
  ⟨F, ⟨a, c, b1, b2, q, H, hF, h.on hb⟩, fun g hg => Or.inl hg, Kept.of_below hb⟩
theorem Ox.zq (h : Ox V w p s a c b1 b2 q H) (hF : ∀ g, F g ↔ g = p ∨ g = b1 ∨ g = b2 ∨ H g) {t : Vq.St} (hq : QueueAt w' q H' t) (hs : ∀ g, H' g → H g ∨ w.heap.size ≤ g) (hk : Kept H w w') : Oz V w w' p F { s with q := t } := by
  refine ⟨_, (h.queue hq hs hk).at_, fun g hg => ?_, hk.mono (fun g hg => (hF g).2 (by simp [hg]))⟩
  rcases hg with hg | hg | hg | hg
  · exact Or.inl ((hF g).2 (by simp [hg]))
  · exact Or.inl ((hF g).2 (by simp [hg]))
  · exact Or.inl ((hF g).2 (by simp [hg]))
  · exact (hs g hg).imp (fun h => (hF g).2 (by simp [h])) id
theorem Ox.zown (h : Ox V w p s a c b1 b2 q H) (hF : ∀ g, F g ↔ g = p ∨ g = b1 ∨ g = b2 ∨ H g) {k : Int} {d : ByteArray} (hm : Mw.Is w' b1 (Q18.put s.own k d)) (hk : Kept (fun j => j = b1) w w') : Oz V w w' p F { s with own := Q18.put s.own k d } :=
  ⟨F, ⟨a, c, b1, b2, q, H, hF, h.own hm hk⟩, fun g hg => Or.inl hg, hk.mono (fun g hg => (hF g).2 (by simp [hg]))⟩
theorem Ox.zcame (h : Ox V w p s a c b1 b2 q H) (hF : ∀ g, F g ↔ g = p ∨ g = b1 ∨ g = b2 ∨ H g) {k : Int} {d : ByteArray} (hm : Mw.Is w' b2 (Q18.put s.came k d)) (hk : Kept (fun j => j = b2) w w') : Oz V w w' p F { s with came := Q18.put s.came k d } :=
  ⟨F, ⟨a, c, b1, b2, q, H, hF, h.came hm hk⟩, fun g hg => Or.inl hg, hk.mono (fun g hg => (hF g).2 (by simp [hg]))⟩
/-- From a world behind one that only grew. -/
theorem Oz.from (h : Oz V w w' p F s) (hb : Below W.heap.size W w) : Oz V W w' p F s := by
  obtain ⟨F', h1, h2, h3⟩ := h
  exact ⟨F', h1, fun g hg => (h2 g hg).imp id (Nat.le_trans hb.size), (Kept.of_below hb).trans h3 (fun g hg => Or.inl hg)⟩
end
set_option maxHeartbeats 4000000 in
theorem oj_state (V w : World) (p : Nat) (F : Nat → Prop) (s : Q18.St) (k : Int) (hk : (Lit.int .i64 k).wf = true) (h : ObjectAt V w p F s) : Ob.Turns Try.prog (ObjectAt V) 19 #[Ob.ptr p, .int .i64 k] w p F s (.tuple #[.string ((Q18.get s.own k).getD ByteArray.empty), .bool (Q18.get s.own k).isSome]) := by
  obtain ⟨a, c, b1, b2, q, H, hF, hx⟩ := h
  have HZ : Hid (∀ w', Below w.heap.size w w' → Oz V w w' p F s) := fun w' hb => hx.z hF hb
  have HA := oj_at w b1 s.own k hx.m1 hk
  obtain ⟨c0, c1, c2, c3, c4⟩ := hx.cells
  generalize Q18.get s.own k = o at HA ⊢
  clear hF hx hk c0 c1 c3 c4
  unfold Ob.Turns
  go_enter Try.func19, Try.ntmps19
  go_wp2_with (go_at_call 39; refine HA.mono ?_; rintro e w1 ⟨rfl, hb⟩)
  go_ret2
  exact ⟨rfl, HZ.out _ hb⟩
set_option maxHeartbeats 4000000 in
theorem oj_read (V w : World) (p : Nat) (F : Nat → Prop) (s : Q18.St) (k : Int) (hk : (Lit.int .i64 k).wf = true) (h : ObjectAt V w p F s) : Ob.Turns Try.prog (ObjectAt V) 21 #[Ob.ptr p, .int .i64 k] w p F s (.tuple #[.string ((Q18.get s.came k).getD ByteArray.empty), .bool (Q18.get s.came k).isSome]) := by
  obtain ⟨a, c, b1, b2, q, H, hF, hx⟩ := h
  have HZ : Hid (∀ w', Below w.heap.size w w' → Oz V w w' p F s) := fun w' hb => hx.z hF hb
  have HA := oj_at w b2 s.came k hx.m2 hk
  obtain ⟨c0, c1, c2, c3, c4⟩ := hx.cells
  generalize Q18.get s.came k = o at HA ⊢
  clear hF hx hk c0 c1 c2 c4
  unfold Ob.Turns
  go_enter Try.func21, Try.ntmps21
  go_wp2_with (go_at_call 39; refine HA.mono ?_; rintro e w1 ⟨rfl, hb⟩)
  go_ret2
  exact ⟨rfl, HZ.out _ hb⟩
set_option maxHeartbeats 4000000 in
theorem oj_waiting (V w : World) (p : Nat) (F : Nat → Prop) (s : Q18.St) (h : ObjectAt V w p F s) : Ob.Turns Try.prog (ObjectAt V) 18 #[Ob.ptr p] w p F s (.int .i64 (s.q.l.length : Int)) := by
  obtain ⟨a, c, b1, b2, q, H, hF, hx⟩ := h
  have HZ : Hid (∀ w' H', QueueAt w' q H' s.q → (∀ g, H' g → H g ∨ w.heap.size ≤ g) → Kept H w w' → Oz V w w' p F s) := fun w' H' h1 h2 h3 => hx.zq hF h1 h2 h3
  have HA := qk_len w q H s.q hx.q
  obtain ⟨c0, c1, c2, c3, c4⟩ := hx.cells
  clear hF hx c0 c1 c2 c3
  unfold Ob.Turns at HA ⊢
  go_enter Try.func18, Try.ntmps18
  go_wp2_with (go_at_call 38; refine HA.mono ?_; rintro e w1 ⟨rfl, H', h1, h2, h3⟩)
  go_ret
  exact ⟨rfl, HZ.out _ _ h1 h2 h3⟩
set_option maxHeartbeats 4000000 in
theorem oj_got (V w : World) (p : Nat) (F : Nat → Prop) (s : Q18.St) (k : Int) (d : ByteArray) (hk : (Lit.int .i64 k).wf = true) (h : ObjectAt V w p F s) : Ob.Turns Try.prog (ObjectAt V) 15 #[Ob.ptr p, .int .i64 k, .string d] w p F (Q18.gotS s k d) (.tuple #[]) := by
  obtain ⟨a, c, b1, b2, q, H, hF, hx⟩ := h
  have HI : Hid (Calls Try.prog 37 #[Ob.ptr p, .int .i64 k] w fun e w' => e = .returned (.bool (Q18.inn s.l.length k)) ∧ w' = w) := oj_is w p _ c a _ _ _ _ k hx.row
  have el : s.came.length = s.l.length := hx.ok.came
  obtain ⟨c0, c1, c2, c3, c4⟩ := hx.cells
  unfold Ob.Turns Q18.gotS
  cases hin : Q18.inn s.l.length k with
  | true =>
    have HZ : Hid (∀ w', Mw.Is w' b2 (Q18.put s.came k d) → Kept (fun j => j = b2) w w' → Oz V w w' p F { s with came := Q18.put s.came k d }) := fun w' h1 h2 => hx.zcame hF h1 h2
    have HA := oj_lay w b2 s.came k d hx.m2 hk (by rw [el]; exact hin)
    rw [hin] at HI
    clear hF hx hk hin el c0 c1 c2 c4
    go_enter Try.func15, Try.ntmps15
    go_wp2_with fail
    refine HI.out.mono ?_
    rintro e w1 ⟨rfl, rfl⟩
    go_wp2_with (go_at_call 31; refine HA.mono ?_; rintro e w2 ⟨rfl, h1, h2⟩)
    go_end0
    exact ⟨rfl, HZ.out _ h1 h2⟩
  | false =>
    have e : Q18.put s.came k d = s.came := by unfold Q18.put; rw [el, hin]; rfl
    have HZ : Hid (Oz V w w p F { s with came := Q18.put s.came k d }) := by rw [e]; exact hx.z hF (Below.refl _ _)
    rw [hin] at HI
    clear hF hx hk hin el c0 c1 c2 c3 c4 e
    go_enter Try.func15, Try.ntmps15
    go_wp2_with fail
    refine HI.out.mono ?_
    rintro e w1 ⟨rfl, rfl⟩
    go_wp2
    go_end0
    exact ⟨rfl, HZ.out⟩
end Go.Proofs.Ytkgeknkppnadfaa
