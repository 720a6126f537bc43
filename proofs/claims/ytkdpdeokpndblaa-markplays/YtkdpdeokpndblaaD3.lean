/- The document's own mark, over its text. -/
import Derived.Test.YtkdpdeokpndblaaD1
import Derived.Test.YtkdpdeokpndblaaRg
import Derived.Test.YtkdpdeokpndblaaU2
namespace Go.Proofs.Ytkdpdeokpndblaa
open Go.RowKit Go.WideShapes
set_option linter.unusedVariables false
def rmC (m : Mq.St) : Array Value := #[.int .u16 ((m.start.getD 0 : Nat) : Int), .int .u16 (Mq.last m : Int), .bool m.start.isSome, .bool (Mq.is m), .int .i64 (Mq.cycle m : Int)]
def RmAt : Ob.A Mq.St := OneB 29 rmC Mq.Ok
theorem rmIs : Ob.Is RmAt := OneB.is _ _ _
set_option maxRecDepth 100000 in
set_option maxHeartbeats 1000000 in
theorem rm_start (w : World) (p : Nat) (F : Nat → Prop) (m : Mq.St) (t : Nat) (ht : t < 65536) (h : RmAt w p F m) : Ob.Turns Try.prog RmAt 10 #[Ob.ptr p, .int .u16 (t : Int)] w p F (Mq.begin m t) (.tuple #[]) := by
  obtain ⟨rfl, hr, ok⟩ := h
  have HO : Hid (Mq.Ok (Mq.begin m t)) := Mq.ok_begin ok ht
  have HM : Hid (RowT 29 w p (rmC m)) := hr
  have c0 : w.cell? ⟨p, 0, none⟩ = some (.int .u16 ((m.start.getD 0 : Nat) : Int)) := hr.c 0 _ rfl
  have c2 : w.cell? ⟨p, 2, none⟩ = some (.bool m.start.isSome) := hr.c 2 _ rfl
  have f0 := hr.f 0
  have f2 := hr.f 2
  clear hr ok ht
  unfold Ob.Turns
  go_enter Try.func10, Try.ntmps10
  go_wp2
  go_end0
  exact ⟨rfl, _, ⟨rfl, (HM.out.set 0 _).set 2 _, HO.out⟩, fun g hg => Or.inl hg, (Kept.refl _ _).sets.sets⟩
set_option maxRecDepth 100000 in
set_option maxHeartbeats 1000000 in
theorem rm_beat (w : World) (p : Nat) (F : Nat → Prop) (m : Mq.St) (y : Int) (h : RmAt w p F m) : Ob.Turns Try.prog RmAt 12 #[Ob.ptr p, .int .i64 y] w p F (Mq.beat m y) (.tuple #[]) := by
  obtain ⟨rfl, hr, ok⟩ := h
  have HO : Hid (Mq.Ok (Mq.beat m y)) := Mq.ok_beat ok y
  have HM : Hid (RowT 29 w p (rmC m)) := hr
  have f1 := hr.f 1
  have f3 := hr.f 3
  have f4 := hr.f 4
  have c0 : w.cell? ⟨p, 0, none⟩ = some (.int .u16 ((m.start.getD 0 : Nat) : Int)) := hr.c 0 _ rfl
  have c1 : w.cell? ⟨p, 1, none⟩ = some (.int .u16 (Mq.last m : Int)) := hr.c 1 _ rfl
  have c2 : w.cell? ⟨p, 2, none⟩ = some (.bool m.start.isSome) := hr.c 2 _ rfl
  have c3 : w.cell? ⟨p, 3, none⟩ = some (.bool (Mq.is m)) := hr.c 3 _ rfl
  have c4 : w.cell? ⟨p, 4, none⟩ = some (.int .i64 (Mq.cycle m : Int)) := hr.c 4 _ rfl
  clear hr ok
  unfold Ob.Turns
  obtain ⟨st, bg⟩ := m
  cases st with
  | none =>
    have c2' : w.cell? ⟨p, 2, none⟩ = some (.bool false) := c2
    clear c2
    go_enter Try.func12, Try.ntmps12
    go_wp2
    go_end0
    exact ⟨rfl, _, ⟨rfl, HM.out, HO.out⟩, fun g hg => Or.inl hg, Kept.refl _ _⟩
  | some s =>
    have c2' : w.cell? ⟨p, 2, none⟩ = some (.bool true) := c2
    have c0' : w.cell? ⟨p, 0, none⟩ = some (.int .u16 (s : Int)) := c0
    obtain ⟨n0, hn0⟩ : ∃ n0 : Int, min y 7 = n0 := ⟨_, rfl⟩
    obtain ⟨K, hK⟩ : ∃ K, Mq.hold y = K := ⟨_, rfl⟩
    have hm0 : max 0 n0 = (K : Int) := by rw [← hK]; unfold Mq.hold; omega
    have HE : Hid (Mq.beat ⟨some s, bg⟩ y = ⟨some s, some (s, K)⟩) := by show _ = _; unfold Mq.beat; rw [hK]
    rw [HE.out] at HO ⊢
    clear c2 c0 hK HE
    generalize Mq.last ⟨some s, bg⟩ = la at c1
    generalize Mq.is ⟨some s, bg⟩ = ib at c3
    generalize Mq.cycle ⟨some s, bg⟩ = cy at c4
    go_enter Try.func12, Try.ntmps12
    go_wp2
    go_end0
    exact ⟨rfl, _, ⟨rfl, ((HM.out.set 1 _).set 3 _).set 4 _, HO.out⟩, fun g hg => Or.inl hg, (Kept.refl _ _).sets.sets.sets⟩
set_option maxRecDepth 100000 in
set_option maxHeartbeats 1000000 in
theorem rsince_any (w : World) (a b : Nat) (ha : a < 65536) (hb : b < 65536) : Calls Try.prog 20 #[.int .u16 (a : Int), .int .u16 (b : Int)] w fun e w' => e = .returned (.int .i64 (Ck.since a b : Int)) ∧ w' = w := by
  obtain ⟨D, hD⟩ : ∃ D, Ck.since a b = D := ⟨_, rfl⟩
  have e1 : IntKind.u16.wrap ((b : Int) - (a : Int)) = (D : Int) := by rw [IntKind.wrap_u16, ← hD]; unfold Ck.since; omega
  have e2 : (D : Int) ≤ 65535 := by rw [← hD]; unfold Ck.since; omega
  rw [hD]
  clear hD ha hb
  go_enter Try.func20, Try.ntmps20
  go_wp2
  go_ret
  exact ⟨rfl, rfl⟩
set_option maxRecDepth 100000 in
set_option maxHeartbeats 1000000 in
theorem rm_tell (w : World) (p : Nat) (F : Nat → Prop) (m : Mq.St) (t : Nat) (ht : t < 65536) (h : RmAt w p F m) : Ob.Looks Try.prog 15 #[Ob.ptr p, .int .u16 (t : Int)] w (.tuple #[.int .i64 (Mq.tell m t : Int), .bool (Mq.is m)]) := by
  obtain ⟨rfl, hr, ok⟩ := h
  have c1 : w.cell? ⟨p, 1, none⟩ = some (.int .u16 (Mq.last m : Int)) := hr.c 1 _ rfl
  have c3 : w.cell? ⟨p, 3, none⟩ = some (.bool (Mq.is m)) := hr.c 3 _ rfl
  unfold Ob.Looks
  obtain ⟨st, bg⟩ := m
  cases bg with
  | none =>
    have c3' : w.cell? ⟨p, 3, none⟩ = some (.bool false) := c3
    clear c3 c1 hr ok
    show Calls _ _ _ _ (fun e w' => e = .returned (.tuple #[.int .i64 0, .bool false]) ∧ _)
    go_enter Try.func15, Try.ntmps15
    go_wp2
    go_ret2
    exact ⟨rfl, Below.refl _ _⟩
  | some b =>
    obtain ⟨f, y⟩ := b
    have c3' : w.cell? ⟨p, 3, none⟩ = some (.bool true) := c3
    have c1' : w.cell? ⟨p, 1, none⟩ = some (.int .u16 (f : Int)) := c1
    have HS := rsince_any w f t (ok.bg _ rfl).1 ht
    clear c3 c1 hr ok ht
    show Calls _ _ _ _ (fun e w' => e = .returned (.tuple #[.int .i64 (Ck.since f t : Int), .bool true]) ∧ _)
    go_enter Try.func15, Try.ntmps15
    go_wp2_with (go_at_call 20; refine HS.mono ?_; rintro e w' ⟨rfl, hw⟩; rw [hw]; clear hw)
    go_ret2
    exact ⟨rfl, Below.refl _ _⟩
set_option maxRecDepth 100000 in
set_option maxHeartbeats 1000000 in
theorem rm_last (w : World) (p : Nat) (F : Nat → Prop) (m : Mq.St) (h : RmAt w p F m) : Ob.Looks Try.prog 17 #[Ob.ptr p] w (.int .u16 (Mq.last m : Int)) := by
  obtain ⟨rfl, hr, ok⟩ := h
  have c1 : w.cell? ⟨p, 1, none⟩ = some (.int .u16 (Mq.last m : Int)) := hr.c 1 _ rfl
  have c3 : w.cell? ⟨p, 3, none⟩ = some (.bool (Mq.is m)) := hr.c 3 _ rfl
  clear hr ok
  unfold Ob.Looks
  obtain ⟨st, bg⟩ := m
  cases bg with
  | none =>
    have c3' : w.cell? ⟨p, 3, none⟩ = some (.bool false) := c3
    clear c3 c1
    show Calls _ _ _ _ (fun e w' => e = .returned (.int .u16 0) ∧ _)
    go_enter Try.func17, Try.ntmps17
    go_wp2
    go_ret
    exact ⟨rfl, Below.refl _ _⟩
  | some b =>
    have c3' : w.cell? ⟨p, 3, none⟩ = some (.bool true) := c3
    clear c3
    generalize Mq.last ⟨st, some b⟩ = la at c1 ⊢
    go_enter Try.func17, Try.ntmps17
    go_wp2
    go_ret
    exact ⟨rfl, Below.refl _ _⟩
end Go.Proofs.Ytkdpdeokpndblaa
