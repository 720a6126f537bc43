/- Layer 22: the document's own master, over its text. -/
import Derived.Test.YtimcjhnanjeloaaA22
import Derived.Test.YtimcjhnanjeloaaRg
import Derived.Test.YtimcjhnanjeloaaU2
import Derived.Test.YtimcjhnanjeloaaD19
import Derived.ProofKit
import Derived.OpenShut
import Derived.Deep.CutBlock
namespace Go.Proofs.Ytimcjhnanjeloaa
open Go.RowKit Go.WideShapes
set_option linter.unusedVariables false
def rmsC (s : Q22.St) : Array Value := #[.int .i64 s.rank, .int .i64 (s.st : Int), .int .i64 s.lead]
def RmsAt : Ob.A Q22.St := OneB 32 rmsC Q22.Ok
theorem rmsIs : Ob.Is RmsAt := OneB.is _ _ _

set_option maxRecDepth 100000 in
set_option maxHeartbeats 8000000 in
theorem rms_new (w : World) (r : Int) (hr : (Lit.int .i64 r).wf = true) : Ob.Makes Try.prog RmsAt 9 #[.int .i64 r] w (Q22.mk r) := by
  have hb := bounds_i64 hr
  unfold Ob.Makes
  obtain ⟨k, hk⟩ : ∃ k : Int, max (-1) r = k := ⟨_, rfl⟩
  have hok : Q22.Ok (Q22.mk r) := Q22.ok_mk (by omega)
  have hm : Q22.mk r = ⟨k, 0, -1⟩ := by unfold Q22.mk; rw [hk]
  rw [hm] at hok ⊢
  have OK : Hid (Q22.Ok ⟨k, 0, -1⟩) := hok
  clear hm hok hr
  go_enter Try.func9, Try.ntmps9
  go_wp2
  go_ret
  exact ⟨_, _, rfl, ⟨rfl, RowT.new _ _ _, OK.out⟩, fun g hg => by have hg' : g = w.heap.size := hg; omega, (Below.refl _ _).alloc (Nat.le_refl _) _⟩

set_option maxRecDepth 100000 in
set_option maxHeartbeats 8000000 in
theorem rms_watch (w : World) (p : Nat) (F : Nat → Prop) (s : Q22.St) (h : RmsAt w p F s) : Ob.Turns Try.prog RmsAt 14 #[Ob.ptr p] w p F (Q22.watch s) (.tuple #[]) := by
  obtain ⟨rfl, hr, ok⟩ := h
  have HM : Hid (RowT 32 w p (rmsC s)) := hr
  have OK : Hid (Q22.Ok s) := ok
  have c0 : w.cell? ⟨p, 0, none⟩ = some (.int .i64 s.rank) := hr.c 0 _ rfl
  have c1 : w.cell? ⟨p, 1, none⟩ = some (.int .i64 (s.st : Int)) := hr.c 1 _ rfl
  have c2 : w.cell? ⟨p, 2, none⟩ = some (.int .i64 s.lead) := hr.c 2 _ rfl
  have f1 := hr.f 1
  have f2 := hr.f 2
  have st2 := ok.st
  clear hr ok
  have HO : Hid (Q22.Ok (Q22.watch s)) := Q22.ok_watch OK.out
  unfold Ob.Turns
  go_enter Try.func14, Try.ntmps14
  go_wp2
  go_end0
  exact ⟨rfl, _, ⟨rfl, (HM.out.set 1 _).set 2 _, HO.out⟩, fun g hg => Or.inl hg, (Kept.refl _ _).sets.sets⟩

set_option maxRecDepth 100000 in
set_option maxHeartbeats 8000000 in
theorem rms_beat (w : World) (p : Nat) (F : Nat → Prop) (s : Q22.St) (r : Int) (hr0 : (Lit.int .i64 r).wf = true) (h : RmsAt w p F s) : Ob.Turns Try.prog RmsAt 16 #[Ob.ptr p, .int .i64 r] w p F (Q22.beat s r) (.tuple #[]) := by
  obtain ⟨rfl, hr, ok⟩ := h
  have HM : Hid (RowT 32 w p (rmsC s)) := hr
  have OK : Hid (Q22.Ok s) := ok
  have c0 : w.cell? ⟨p, 0, none⟩ = some (.int .i64 s.rank) := hr.c 0 _ rfl
  have c1 : w.cell? ⟨p, 1, none⟩ = some (.int .i64 (s.st : Int)) := hr.c 1 _ rfl
  have c2 : w.cell? ⟨p, 2, none⟩ = some (.int .i64 s.lead) := hr.c 2 _ rfl
  have f1 := hr.f 1
  have f2 := hr.f 2
  have st2 := ok.st
  clear hr ok
  have hb := bounds_i64 hr0
  have HO : Hid (Q22.Ok (Q22.beat s r)) := Q22.ok_beat OK.out (by omega) (by omega)
  clear hb hr0
  unfold Ob.Turns
  obtain ⟨rk, st, ld⟩ := s
  dsimp only at c0 c1 c2 st2
  by_cases h2 : st < 2
  · have h2i : (st : Int) < 2 := by omega
    have HE : Hid (Q22.beat ⟨rk, st, ld⟩ r = ⟨rk, st + 1, r⟩) := by show _ = _; unfold Q22.beat; dsimp only; rw [show min 2 (st + 1) = st + 1 by omega]
    rw [HE.out] at HO ⊢
    clear st2
    go_enter Try.func16, Try.ntmps16
    go_wp2
    go_end0
    exact ⟨rfl, _, ⟨rfl, (HM.out.set 2 _).set 1 _, HO.out⟩, fun g hg => Or.inl hg, (Kept.refl _ _).sets.sets⟩
  · have h2i : ¬ ((st : Int) < 2) := by omega
    have HE : Hid (Q22.beat ⟨rk, st, ld⟩ r = ⟨rk, st, r⟩) := by show _ = _; unfold Q22.beat; dsimp only; rw [show min 2 (st + 1) = st by omega]
    rw [HE.out] at HO ⊢
    clear st2
    go_enter Try.func16, Try.ntmps16
    go_wp2
    go_end0
    exact ⟨rfl, _, ⟨rfl, HM.out.set 2 _, HO.out⟩, fun g hg => Or.inl hg, (Kept.refl _ _).sets⟩

set_option maxRecDepth 100000 in
set_option maxHeartbeats 8000000 in
theorem rms_sent (w : World) (p : Nat) (F : Nat → Prop) (s : Q22.St) (h : RmsAt w p F s) : Ob.Turns Try.prog RmsAt 12 #[Ob.ptr p] w p F (Q22.sent s) (.tuple #[]) := by
  obtain ⟨rfl, hr, ok⟩ := h
  have HM : Hid (RowT 32 w p (rmsC s)) := hr
  have OK : Hid (Q22.Ok s) := ok
  have c0 : w.cell? ⟨p, 0, none⟩ = some (.int .i64 s.rank) := hr.c 0 _ rfl
  have c1 : w.cell? ⟨p, 1, none⟩ = some (.int .i64 (s.st : Int)) := hr.c 1 _ rfl
  have c2 : w.cell? ⟨p, 2, none⟩ = some (.int .i64 s.lead) := hr.c 2 _ rfl
  have f1 := hr.f 1
  have f2 := hr.f 2
  have st2 := ok.st
  clear hr ok
  have HO : Hid (Q22.Ok (Q22.sent s)) := Q22.ok_sent OK.out
  unfold Ob.Turns
  obtain ⟨rk, st, ld⟩ := s
  dsimp only at c0 c1 c2 st2
  by_cases h2 : 0 ≤ rk
  · have HE : Hid (Q22.sent ⟨rk, st, ld⟩ = ⟨rk, 2, rk⟩) := by show _ = _; unfold Q22.sent; rw [if_pos h2]
    rw [HE.out] at HO ⊢
    go_enter Try.func12, Try.ntmps12
    go_wp2
    go_end0
    exact ⟨rfl, _, ⟨rfl, (HM.out.set 2 _).set 1 _, HO.out⟩, fun g hg => Or.inl hg, (Kept.refl _ _).sets.sets⟩
  · have HE : Hid (Q22.sent ⟨rk, st, ld⟩ = ⟨rk, st, ld⟩) := by show _ = _; unfold Q22.sent; rw [if_neg h2]
    rw [HE.out] at HO ⊢
    go_enter Try.func12, Try.ntmps12
    go_wp2
    go_end0
    exact ⟨rfl, _, ⟨rfl, HM.out, HO.out⟩, fun g hg => Or.inl hg, Kept.refl _ _⟩

set_option maxRecDepth 100000 in
set_option maxHeartbeats 8000000 in
theorem rms_leads (w : World) (p : Nat) (F : Nat → Prop) (s : Q22.St) (h : RmsAt w p F s) : Ob.Looks Try.prog 20 #[Ob.ptr p] w (.bool (Q22.leads s)) := by
  obtain ⟨rfl, hr, ok⟩ := h
  have HR : Hid (∀ w', Below w.heap.size w w' → w'.cell? ⟨p, 0, none⟩ = some (.int .i64 s.rank) ∧ w'.cell? ⟨p, 1, none⟩ = some (.int .i64 (s.st : Int)) ∧ w'.cell? ⟨p, 2, none⟩ = some (.int .i64 s.lead)) := fun w' hb => ⟨(hr.on hb).c 0 _ rfl, (hr.on hb).c 1 _ rfl, (hr.on hb).c 2 _ rfl⟩
  clear hr ok
  unfold Ob.Looks Q22.leads
  obtain ⟨rk, st, ld⟩ := s
  dsimp only at HR ⊢
  have QB : ∀ b c d : Bool, decide (0 ≤ rk) = b → (st == 2) = c → decide (rk ≤ ld) = d → Calls Try.prog 20 #[Ob.ptr p] w fun e w' => e = .returned (.bool (b && (c && d))) ∧ Below w.heap.size w w' := fun b c d hb hc hd => by
    have hci : ((st : Int) == 2) = c := by
      rw [← hc]
      by_cases h : st = 2
      · subst h; rfl
      · rw [beq_eq_false_iff_ne.2 h, beq_eq_false_iff_ne.2 (show ¬ ((st : Int) = 2) by omega)]
    clear hc
    go_enter Try.func20, Try.ntmps20
    go_wp2_with fail
    cases b <;> cases c <;> cases d
    all_goals
      refine Lw.wp_region_quiet_below (by kernel_rfl) (by kernel_rfl) ?_
      repeat (first
        | go_big_quiet_skip
        | (go_big_quiet_want; go_big_quiet_op; go_big_quiet_on)
        | (go_big_quiet_want; go_big_quiet_op; apply Exists.intro; refine ⟨fun _ hb' => ?_, ?_⟩; (first
          | exact Lw.val_rfl _
          | (simp [go_sem, (HR.out _ hb').1]; rfl)
          | (simp [go_sem, (HR.out _ hb').2.1]; rfl)
          | (simp [go_sem, (HR.out _ hb').2.2]; rfl)); go_big_quiet_on))
      refine wpQuiet_nil ?_
      intro w1 hb1
      go_wp2
      go_ret
      exact ⟨by first | rfl | simp_all, hb1⟩
  exact QB _ _ _ rfl rfl rfl

end Go.Proofs.Ytimcjhnanjeloaa
