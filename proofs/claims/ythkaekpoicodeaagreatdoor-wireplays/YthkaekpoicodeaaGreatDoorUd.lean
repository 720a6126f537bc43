/- Counters in a block of their own. -/
import Derived.Test.YthkaekpoicodeaaGreatDoorUe
import Derived.WalkKit
import Derived.WalkSpells
import Derived.WalkLawsBesides
import Derived.Handy
import Derived.Below
import Derived.Test.YthkaekpoicodeaaGreatDoorU2
import Derived.WalkArith
namespace Go.Proofs.YthkaekpoicodeaaGreatDoor
open Go.RowKit
theorem ret_b {a b : Bool} (h : a = b) : Ending.returned (.bool a) = .returned (.bool b) := by rw [h]
/-- Counters lie in a block. -/
def LiesC (w : World) (b : Nat) (s g : Int) : Prop := w.heap[b]? = some (.cells #[.int .i64 s, .int .i64 g] 47 (0, 0))
theorem LiesC.on {w w' : World} {b : Nat} {s g : Int} (h : LiesC w b s g) (hb : Below w.heap.size w w') : LiesC w' b s g := (hb.block b (Array.getElem?_eq_some_iff.1 h).1).trans h
theorem LiesC.alloc {w : World} {b : Nat} {s g : Int} (h : LiesC w b s g) (o : Obj) : LiesC (w.alloc o) b s g := h.on ((Below.refl _ _).alloc (Nat.le_refl _) _)
theorem LiesC.lt {w : World} {b : Nat} {s g : Int} (h : LiesC w b s g) : b < w.heap.size := (Array.getElem?_eq_some_iff.1 h).1
theorem LiesC.new (w : World) (s g : Int) : LiesC (w.alloc (.cells #[.int .i64 s, .int .i64 g] 47)) w.heap.size s g := heap_alloc_new _ _
theorem LiesC.c0 {w : World} {b : Nat} {s g : Int} (h : LiesC w b s g) : w.cell? ⟨b, 0, none⟩ = some (.int .i64 s) := by rw [cell_of_row _ _ _ _ _ _ h]; rfl
theorem LiesC.c1 {w : World} {b : Nat} {s g : Int} (h : LiesC w b s g) : w.cell? ⟨b, 1, none⟩ = some (.int .i64 g) := by rw [cell_of_row _ _ _ _ _ _ h]; rfl
theorem LiesC.f0 {w : World} {b : Nat} {s g : Int} (h : LiesC w b s g) : w.frozen? ⟨b, 0, none⟩ = false := frozen_of_row _ _ 0 _ _ h
theorem LiesC.f1 {w : World} {b : Nat} {s g : Int} (h : LiesC w b s g) : w.frozen? ⟨b, 1, none⟩ = false := frozen_of_row _ _ 1 _ _ h
theorem below_joinC {a b c : World} (h : Below a.heap.size a b) (h2 : Below b.heap.size b c) : Below a.heap.size a c := h.trans (h2.mono h.size)
theorem LiesC.old2 (w : World) (s g : Int) (o : Obj) : LiesC ((w.alloc (.cells #[.int .i64 s, .int .i64 g] 47)).alloc o) w.heap.size s g := (LiesC.new w s g).alloc o
theorem LiesC.new2 (w : World) (o : Obj) (s g : Int) : LiesC ((w.alloc o).alloc (.cells #[.int .i64 s, .int .i64 g] 47)) (w.heap.size + 1) s g := heap_alloc2_new _ _ _
end Go.Proofs.YthkaekpoicodeaaGreatDoor
/- Package confine: what it answers. -/
namespace Go.Proofs.YthkaekpoicodeaaGreatDoor
open Go.RowKit
set_option linter.unusedVariables false
/-- A counter brought to the nearest one that can be. -/
def hv (n : Int) : Int := min (max n 0) 1000
theorem hv_id {n : Int} (h1 : 0 ≤ n) (h2 : n ≤ 1000) : hv n = n := by unfold hv; omega
theorem hv_both (s g : Int) : (decide (s = hv s) && decide (g = hv g)) = Km.isC s g := by
  unfold hv Km.isC
  rw [Bool.eq_iff_iff]
  simp
  omega
set_option maxRecDepth 100000 in
set_option maxHeartbeats 1000000 in
theorem kHeld_any (s g : Int) (w : World) : Calls Tryz.prog 109 #[.agg #[.int .i64 s, .int .i64 g]] w fun e w' => e = .returned (.agg #[.int .i64 (hv s), .int .i64 (hv g)]) ∧ Below w.heap.size w w' := by
  have HS : Hid (min (max s 0) 1000 = hv s) := rfl
  have HG : Hid (min (max g 0) 1000 = hv g) := rfl
  generalize hv s = R at *
  generalize hv g = Q at *
  go_enter Tryz.func109, Tryz.ntmps109
  go_wp2
  all_goals
    have e1 := HS.out
    have e2 := HG.out
    exact bodyPost_ret (v := .agg #[.int .i64 R, .int .i64 Q]) (by simp [results, Tryz.results109, go_sem]; omega) rfl ⟨rfl, ((Below.refl _ _).alloc (Nat.le_refl _) _).alloc (by simp) _⟩
set_option maxHeartbeats 1000000 in
theorem kOff_any (s g : Int) (w : World) (ws : (Lit.int .i64 s).wf = true) (wg : (Lit.int .i64 g).wf = true) : Calls Tryz.prog 87 #[.agg #[.int .i64 s, .int .i64 g]] w fun e w' => e = .returned (.bool (Km.offC s)) ∧ Below w.heap.size w w' := by
  unfold Km.offC
  clear ws wg
  go_enter Tryz.func87, Tryz.ntmps87
  go_wp2
  go_ret
  exact ⟨rfl, (Below.refl _ _).alloc (Nat.le_refl _) _⟩
set_option maxHeartbeats 1000000 in
theorem kPas_any (s g : Int) (w : World) (ws : (Lit.int .i64 s).wf = true) (wg : (Lit.int .i64 g).wf = true) : Calls Tryz.prog 56 #[.agg #[.int .i64 s, .int .i64 g]] w fun e w' => e = .returned (.bool (Km.pasC s g)) ∧ Below w.heap.size w w' := by
  have HO : Hid (∀ w, Calls Tryz.prog 87 #[.agg #[.int .i64 s, .int .i64 g]] w fun e w' => e = .returned (.bool (Km.offC s)) ∧ Below w.heap.size w w') := fun w => kOff_any s g w ws wg
  have HP : Hid (Km.pasC s g = (!Km.offC s && decide (128 ≤ max s g))) := by
    show _ = _
    unfold Km.pasC
    congr 1
    rw [Bool.eq_iff_iff]
    simp
    omega
  generalize Km.pasC s g = R at *
  generalize Km.offC s = O at *
  clear ws wg
  go_enter Tryz.func56, Tryz.ntmps56
  go_wp2_with fail
  refine (HO.out _).mono ?_
  rintro e w1 ⟨rfl, hb1⟩
  have L0 : Hid (LiesC w1 w.heap.size s g) := (LiesC.new w s g).on hb1
  have hb2 : Hid (Below w.heap.size w w1) := below_joinC ((Below.refl _ _).alloc (Nat.le_refl _) _) hb1
  have a0 := L0.out.c0
  have a1 := L0.out.c1
  clear hb1 HO
  cases O
  all_goals go_wp2
  all_goals
    go_ret
    exact ⟨ret_b (by rw [HP.out]; simp [*]; try omega), hb2.out⟩
set_option maxHeartbeats 1000000 in
theorem kIs_any (s g : Int) (w : World) (ws : (Lit.int .i64 s).wf = true) (wg : (Lit.int .i64 g).wf = true) : Calls Tryz.prog 108 #[.agg #[.int .i64 s, .int .i64 g]] w fun e w' => e = .returned (.bool (Km.isC s g)) ∧ Below w.heap.size w w' := by
  have HH : Hid (∀ w, Calls Tryz.prog 109 #[.agg #[.int .i64 s, .int .i64 g]] w fun e w' => e = .returned (.agg #[.int .i64 (hv s), .int .i64 (hv g)]) ∧ Below w.heap.size w w') := fun w => kHeld_any s g w
  have HE := hv_both s g
  have L0 : Hid (LiesC _ _ s g) := LiesC.new w s g
  have hA : Hid (Below w.heap.size w (w.alloc (.cells #[.int .i64 s, .int .i64 g] 47))) := (Below.refl _ _).alloc (Nat.le_refl _) _
  cases hR : Km.isC s g
  · rw [hR] at HE
    clear hR ws wg
    generalize hv s = p at *
    generalize hv g = q at *
    by_cases hp : s = p
    · subst hp
      have hq : ¬ g = q := by simpa using HE
      clear HE
      go_enter Tryz.func108, Tryz.ntmps108
      go_wp2_with fail
      generalize w.alloc (.cells #[.int .i64 s, .int .i64 g] 47) = w1 at L0 hA ⊢
      refine Lw.wp_region_quiet_below (by kernel_rfl) (by kernel_rfl) ?_
      repeat (first
        | go_big_quiet_skip
        | (go_big_quiet_want; go_big_quiet_op; go_big_quiet_on)
        | (go_big_quiet_want; go_big_quiet_op; apply Exists.intro; refine ⟨fun _ hb' => ?_, ?_⟩; (first
          | exact Lw.val_rfl _
          | (go_at_call 109; exact Lw.calls_below hb' (HH.out _))
          | (simp [go_sem, (L0.out.on hb').c0, (L0.out.on hb').c1]; rfl)
          | (simp [go_sem, hq]; rfl)); go_big_quiet_on))
      refine wpQuiet_nil ?_
      intro w2 hb2
      have hA2 := below_joinC hA.out hb2
      go_wp2
      go_ret
      exact ⟨rfl, hA2⟩
    · clear HE
      go_enter Tryz.func108, Tryz.ntmps108
      go_wp2_with fail
      generalize w.alloc (.cells #[.int .i64 s, .int .i64 g] 47) = w1 at L0 hA ⊢
      refine Lw.wp_region_quiet_below (by kernel_rfl) (by kernel_rfl) ?_
      repeat (first
        | go_big_quiet_skip
        | (go_big_quiet_want; go_big_quiet_op; go_big_quiet_on)
        | (go_big_quiet_want; go_big_quiet_op; apply Exists.intro; refine ⟨fun _ hb' => ?_, ?_⟩; (first
          | exact Lw.val_rfl _
          | (go_at_call 109; exact Lw.calls_below hb' (HH.out _))
          | (simp [go_sem, (L0.out.on hb').c0, (L0.out.on hb').c1]; rfl)
          | (simp [go_sem, hp]; rfl)); go_big_quiet_on))
      refine wpQuiet_nil ?_
      intro w2 hb2
      have hA2 := below_joinC hA.out hb2
      go_wp2
      go_ret
      exact ⟨rfl, hA2⟩
  · obtain ⟨h1, h2, h3, h4⟩ := Km.isC_parts hR
    rw [hv_id h1 h2, hv_id h3 h4] at HH
    clear HE hR ws wg h1 h2 h3 h4
    go_enter Tryz.func108, Tryz.ntmps108
    go_wp2_with fail
    generalize w.alloc (.cells #[.int .i64 s, .int .i64 g] 47) = w1 at L0 hA ⊢
    refine Lw.wp_region_quiet_below (by kernel_rfl) (by kernel_rfl) ?_
    repeat (first
      | go_big_quiet_skip
      | (go_big_quiet_want; go_big_quiet_op; go_big_quiet_on)
      | (go_big_quiet_want; go_big_quiet_op; apply Exists.intro; refine ⟨fun _ hb' => ?_, ?_⟩; (first
        | exact Lw.val_rfl _
        | (go_at_call 109; exact Lw.calls_below hb' (HH.out _))
        | (simp [go_sem, (L0.out.on hb').c0, (L0.out.on hb').c1]; rfl)); go_big_quiet_on))
    refine wpQuiet_nil ?_
    intro w2 hb2
    have hA2 := below_joinC hA.out hb2
    go_wp2
    go_ret
    exact ⟨rfl, hA2⟩
set_option maxRecDepth 100000 in
set_option maxHeartbeats 2000000 in
theorem kSent_any (s g : Int) (ok : Bool) (w : World) (ws : (Lit.int .i64 s).wf = true) (wg : (Lit.int .i64 g).wf = true) : Calls Tryz.prog 90 #[.agg #[.int .i64 s, .int .i64 g], .bool ok] w fun e w' => e = .returned (.agg #[.int .i64 (Km.sentS s g ok), .int .i64 g]) ∧ Below w.heap.size w w' := by
  have HI : Hid (∀ w, Calls Tryz.prog 108 #[.agg #[.int .i64 s, .int .i64 g]] w fun e w' => e = .returned (.bool (Km.isC s g)) ∧ Below w.heap.size w w') := fun w => kIs_any s g w ws wg
  cases hi : Km.isC s g
  · have HS : Hid (Km.sentS s g ok = s) := by show _ = _; unfold Km.sentS; rw [hi]; rfl
    rw [hi] at HI
    generalize Km.sentS s g ok = R at *
    clear hi ws wg
    go_enter Tryz.func90, Tryz.ntmps90
    go_wp2_with fail
    refine (HI.out _).mono ?_
    rintro e w1 ⟨rfl, hb1⟩
    have L0 : Hid (LiesC w1 w.heap.size s g) := (LiesC.old2 w s g _).on hb1
    have L1 : Hid (LiesC w1 (w.heap.size + 1) 0 0) := (LiesC.new2 w _ 0 0).on hb1
    have hb2 : Hid (Below w.heap.size w w1) := below_joinC (((Below.refl _ _).alloc (Nat.le_refl _) _).alloc (by simp) _) hb1
    have a0 := L0.out.c0
    have a1 := L0.out.c1
    have a2 := L0.out.f0
    have a3 := L0.out.f1
    have b0 := L1.out.c0
    have b1 := L1.out.c1
    have b2 := L1.out.f0
    have b3 := L1.out.f1
    clear hb1 HI
    go_wp2
    all_goals exact bodyPost_ret (v := .agg #[.int .i64 s, .int .i64 g]) (by simp [results, Tryz.results90, go_sem, b0, b1]; try omega) rfl ⟨by rw [HS.out], (hb2.out.setCell (Nat.le_succ _) _).setCell (Nat.le_succ _) _⟩
  · obtain ⟨h1, h2, h3, h4⟩ := Km.isC_parts hi
    obtain ⟨X, hX⟩ : ∃ X, X = (if ok then s - 1 else s + 8) := ⟨_, rfl⟩
    have HS : Hid (Km.sentS s g ok = hv X) := by show _ = _; unfold Km.sentS Km.sentV hv; rw [hi, if_pos rfl, hX]; split <;> omega
    have HH : Hid (∀ w, Calls Tryz.prog 109 #[.agg #[.int .i64 X, .int .i64 g]] w fun e w' => e = .returned (.agg #[.int .i64 (Km.sentS s g ok), .int .i64 g]) ∧ Below w.heap.size w w') := fun w => by
      have h := kHeld_any X g w
      rw [hv_id h3 h4, ← HS.out] at h
      exact h
    rw [hi] at HI
    clear HS
    generalize Km.sentS s g ok = R at *
    clear hi ws wg
    cases ok
    all_goals
      first | rw [if_pos rfl] at hX | rw [if_neg Bool.false_ne_true] at hX
      go_enter Tryz.func90, Tryz.ntmps90
      go_wp2_with fail
      refine (HI.out _).mono ?_
      rintro e w1 ⟨rfl, hb1⟩
      have L0 : Hid (LiesC w1 w.heap.size s g) := (LiesC.old2 w s g _).on hb1
      have L1 : Hid (LiesC w1 (w.heap.size + 1) 0 0) := (LiesC.new2 w _ 0 0).on hb1
      have hb2 : Hid (Below w.heap.size w w1) := below_joinC (((Below.refl _ _).alloc (Nat.le_refl _) _).alloc (by simp) _) hb1
      have a0 := L0.out.c0
      have a1 := L0.out.c1
      have a2 := L0.out.f0
      have a3 := L0.out.f1
      have b0 := L1.out.c0
      have b1 := L1.out.c1
      have b2 := L1.out.f0
      have b3 := L1.out.f1
      clear hb1 HI
      go_wp2_with fail
      have L2 : Hid (LiesC (w1.setCell ⟨w.heap.size, 0, none⟩ (.int .i64 X)) (w.heap.size + 1) 0 0) := (heap_setCell_other _ _ _ _ (by simp)).trans L1.out
      have hb3 : Hid (Below w.heap.size w (w1.setCell ⟨w.heap.size, 0, none⟩ (.int .i64 X))) := hb2.out.setCell (Nat.le_refl _) _
      subst hX
      refine (HH.out _).mono ?_
      rintro e w2 ⟨rfl, hb1⟩
      replace L2 : Hid (LiesC w2 (w.heap.size + 1) 0 0) := L2.out.on hb1
      replace hb3 : Hid (Below w.heap.size w w2) := below_joinC hb3.out hb1
      clear L0 L1 hb2 a0 a1 a2 a3 b0 b1 b2 b3 HH hb1
      have b0 := L2.out.c0
      have b1 := L2.out.c1
      have b2 := L2.out.f0
      have b3 := L2.out.f1
      go_wp2
      exact bodyPost_ret (v := .agg #[.int .i64 R, .int .i64 g]) (by simp [results, Tryz.results90, go_sem, b0, b1]) rfl ⟨rfl, (hb3.out.setCell (Nat.le_succ _) _).setCell (Nat.le_succ _) _⟩
set_option maxRecDepth 100000 in
set_option maxHeartbeats 2000000 in
theorem kGot_any (s g : Int) (ok : Bool) (w : World) (ws : (Lit.int .i64 s).wf = true) (wg : (Lit.int .i64 g).wf = true) : Calls Tryz.prog 92 #[.agg #[.int .i64 s, .int .i64 g], .bool ok] w fun e w' => e = .returned (.agg #[.int .i64 s, .int .i64 (Km.gotG s g ok)]) ∧ Below w.heap.size w w' := by
  have HI : Hid (∀ w, Calls Tryz.prog 108 #[.agg #[.int .i64 s, .int .i64 g]] w fun e w' => e = .returned (.bool (Km.isC s g)) ∧ Below w.heap.size w w') := fun w => kIs_any s g w ws wg
  cases hi : Km.isC s g
  · have HS : Hid (Km.gotG s g ok = g) := by show _ = _; unfold Km.gotG; rw [hi]; rfl
    rw [hi] at HI
    generalize Km.gotG s g ok = R at *
    clear hi ws wg
    go_enter Tryz.func92, Tryz.ntmps92
    go_wp2_with fail
    refine (HI.out _).mono ?_
    rintro e w1 ⟨rfl, hb1⟩
    have L0 : Hid (LiesC w1 w.heap.size s g) := (LiesC.old2 w s g _).on hb1
    have L1 : Hid (LiesC w1 (w.heap.size + 1) 0 0) := (LiesC.new2 w _ 0 0).on hb1
    have hb2 : Hid (Below w.heap.size w w1) := below_joinC (((Below.refl _ _).alloc (Nat.le_refl _) _).alloc (by simp) _) hb1
    have a0 := L0.out.c0
    have a1 := L0.out.c1
    have a2 := L0.out.f0
    have a3 := L0.out.f1
    have b0 := L1.out.c0
    have b1 := L1.out.c1
    have b2 := L1.out.f0
    have b3 := L1.out.f1
    clear hb1 HI
    go_wp2
    all_goals exact bodyPost_ret (v := .agg #[.int .i64 s, .int .i64 g]) (by simp [results, Tryz.results92, go_sem, b0, b1]; try omega) rfl ⟨by rw [HS.out], (hb2.out.setCell (Nat.le_succ _) _).setCell (Nat.le_succ _) _⟩
  · obtain ⟨h1, h2, h3, h4⟩ := Km.isC_parts hi
    obtain ⟨X, hX⟩ : ∃ X, X = (if ok then (if 127 < g then 120 else g - 1) else g + 1) := ⟨_, rfl⟩
    have HS : Hid (Km.gotG s g ok = hv X) := by show _ = _; unfold Km.gotG Km.gotV hv; rw [hi, if_pos rfl, hX]; (repeat' split) <;> omega
    have HH : Hid (∀ w, Calls Tryz.prog 109 #[.agg #[.int .i64 s, .int .i64 X]] w fun e w' => e = .returned (.agg #[.int .i64 s, .int .i64 (Km.gotG s g ok)]) ∧ Below w.heap.size w w') := fun w => by
      have h := kHeld_any s X w
      rw [hv_id h1 h2, ← HS.out] at h
      exact h
    rw [hi] at HI
    clear HS
    generalize Km.gotG s g ok = R at *
    clear hi ws wg
    cases ok
    · rw [if_neg Bool.false_ne_true] at hX
      go_enter Tryz.func92, Tryz.ntmps92
      go_wp2_with fail
      refine (HI.out _).mono ?_
      rintro e w1 ⟨rfl, hb1⟩
      have L0 : Hid (LiesC w1 w.heap.size s g) := (LiesC.old2 w s g _).on hb1
      have L1 : Hid (LiesC w1 (w.heap.size + 1) 0 0) := (LiesC.new2 w _ 0 0).on hb1
      have hb2 : Hid (Below w.heap.size w w1) := below_joinC (((Below.refl _ _).alloc (Nat.le_refl _) _).alloc (by simp) _) hb1
      have a0 := L0.out.c0
      have a1 := L0.out.c1
      have a2 := L0.out.f0
      have a3 := L0.out.f1
      have b0 := L1.out.c0
      have b1 := L1.out.c1
      have b2 := L1.out.f0
      have b3 := L1.out.f1
      clear hb1 HI
      go_wp2_with fail
      have L2 : Hid (LiesC (w1.setCell ⟨w.heap.size, 1, none⟩ (.int .i64 X)) (w.heap.size + 1) 0 0) := (heap_setCell_other _ _ _ _ (by simp)).trans L1.out
      have hb3 : Hid (Below w.heap.size w (w1.setCell ⟨w.heap.size, 1, none⟩ (.int .i64 X))) := hb2.out.setCell (Nat.le_refl _) _
      subst hX
      refine (HH.out _).mono ?_
      rintro e w2 ⟨rfl, hb1⟩
      replace L2 : Hid (LiesC w2 (w.heap.size + 1) 0 0) := L2.out.on hb1
      replace hb3 : Hid (Below w.heap.size w w2) := below_joinC hb3.out hb1
      clear L0 L1 hb2 a0 a1 a2 a3 b0 b1 b2 b3 HH hb1
      have b0 := L2.out.c0
      have b1 := L2.out.c1
      have b2 := L2.out.f0
      have b3 := L2.out.f1
      go_wp2
      exact bodyPost_ret (v := .agg #[.int .i64 s, .int .i64 R]) (by simp [results, Tryz.results92, go_sem, b0, b1]) rfl ⟨rfl, (hb3.out.setCell (Nat.le_succ _) _).setCell (Nat.le_succ _) _⟩
    · rw [if_pos rfl] at hX
      by_cases hg : 127 < g
      · rw [if_pos hg] at hX
        go_enter Tryz.func92, Tryz.ntmps92
        go_wp2_with fail
        refine (HI.out _).mono ?_
        rintro e w1 ⟨rfl, hb1⟩
        have L0 : Hid (LiesC w1 w.heap.size s g) := (LiesC.old2 w s g _).on hb1
        have L1 : Hid (LiesC w1 (w.heap.size + 1) 0 0) := (LiesC.new2 w _ 0 0).on hb1
        have hb2 : Hid (Below w.heap.size w w1) := below_joinC (((Below.refl _ _).alloc (Nat.le_refl _) _).alloc (by simp) _) hb1
        have a0 := L0.out.c0
        have a1 := L0.out.c1
        have a2 := L0.out.f0
        have a3 := L0.out.f1
        have b0 := L1.out.c0
        have b1 := L1.out.c1
        have b2 := L1.out.f0
        have b3 := L1.out.f1
        clear hb1 HI
        go_wp2_with fail
        have L2 : Hid (LiesC (w1.setCell ⟨w.heap.size, 1, none⟩ (.int .i64 X)) (w.heap.size + 1) 0 0) := (heap_setCell_other _ _ _ _ (by simp)).trans L1.out
        have hb3 : Hid (Below w.heap.size w (w1.setCell ⟨w.heap.size, 1, none⟩ (.int .i64 X))) := hb2.out.setCell (Nat.le_refl _) _
        subst hX
        refine (HH.out _).mono ?_
        rintro e w2 ⟨rfl, hb1⟩
        replace L2 : Hid (LiesC w2 (w.heap.size + 1) 0 0) := L2.out.on hb1
        replace hb3 : Hid (Below w.heap.size w w2) := below_joinC hb3.out hb1
        clear L0 L1 hb2 a0 a1 a2 a3 b0 b1 b2 b3 HH hb1
        have b0 := L2.out.c0
        have b1 := L2.out.c1
        have b2 := L2.out.f0
        have b3 := L2.out.f1
        go_wp2
        exact bodyPost_ret (v := .agg #[.int .i64 s, .int .i64 R]) (by simp [results, Tryz.results92, go_sem, b0, b1]) rfl ⟨rfl, (hb3.out.setCell (Nat.le_succ _) _).setCell (Nat.le_succ _) _⟩
      · rw [if_neg hg] at hX
        go_enter Tryz.func92, Tryz.ntmps92
        go_wp2_with fail
        refine (HI.out _).mono ?_
        rintro e w1 ⟨rfl, hb1⟩
        have L0 : Hid (LiesC w1 w.heap.size s g) := (LiesC.old2 w s g _).on hb1
        have L1 : Hid (LiesC w1 (w.heap.size + 1) 0 0) := (LiesC.new2 w _ 0 0).on hb1
        have hb2 : Hid (Below w.heap.size w w1) := below_joinC (((Below.refl _ _).alloc (Nat.le_refl _) _).alloc (by simp) _) hb1
        have a0 := L0.out.c0
        have a1 := L0.out.c1
        have a2 := L0.out.f0
        have a3 := L0.out.f1
        have b0 := L1.out.c0
        have b1 := L1.out.c1
        have b2 := L1.out.f0
        have b3 := L1.out.f1
        clear hb1 HI
        go_wp2_with fail
        have L2 : Hid (LiesC (w1.setCell ⟨w.heap.size, 1, none⟩ (.int .i64 X)) (w.heap.size + 1) 0 0) := (heap_setCell_other _ _ _ _ (by simp)).trans L1.out
        have hb3 : Hid (Below w.heap.size w (w1.setCell ⟨w.heap.size, 1, none⟩ (.int .i64 X))) := hb2.out.setCell (Nat.le_refl _) _
        subst hX
        refine (HH.out _).mono ?_
        rintro e w2 ⟨rfl, hb1⟩
        replace L2 : Hid (LiesC w2 (w.heap.size + 1) 0 0) := L2.out.on hb1
        replace hb3 : Hid (Below w.heap.size w w2) := below_joinC hb3.out hb1
        clear L0 L1 hb2 a0 a1 a2 a3 b0 b1 b2 b3 HH hb1
        have b0 := L2.out.c0
        have b1 := L2.out.c1
        have b2 := L2.out.f0
        have b3 := L2.out.f1
        go_wp2
        exact bodyPost_ret (v := .agg #[.int .i64 s, .int .i64 R]) (by simp [results, Tryz.results92, go_sem, b0, b1]) rfl ⟨rfl, (hb3.out.setCell (Nat.le_succ _) _).setCell (Nat.le_succ _) _⟩
end Go.Proofs.YthkaekpoicodeaaGreatDoor
