/- ConfineTells: of every counters what a frame makes of them, and what they mean, is the document's. No condition. -/
import Derived.Test.YtnldihejdhceoaaKk
import Derived.Test.YtnldihejdhceoaaKn
import Derived.Test.YtnldihejdhceoaaLw
import Derived.ProofKit
import Derived.OpenShut
import Derived.Lib.SmallJoins
namespace Go.Proofs.Ytnldihejdhceoaa.confineTells
open Go.ChangeShapes Go.WideShapes Go.ChangeAt Go.RowKit
set_option linter.unusedVariables false
set_option maxRecDepth 100000 in
set_option maxHeartbeats 4000000 in
theorem t_all (s g SS GG : Int) (ok O P : Bool) (h1 : 0 ≤ s) (h2 : s ≤ 1000) (h3 : 0 ≤ g) (h4 : g ≤ 1000) (W : World)
    (HI : Hid (∀ w, Calls Try.prog 8 #[.agg #[.int .i64 s, .int .i64 g]] w fun e w' => e = .returned (.bool true) ∧ Below w.heap.size w w'))
    (HS : Hid (∀ w, Calls Try.prog 9 #[.agg #[.int .i64 s, .int .i64 g], .bool ok] w fun e w' => e = .returned (.agg #[.int .i64 SS, .int .i64 g]) ∧ Below w.heap.size w w'))
    (HSr : Hid (∀ w, Calls Try.prog 10 #[.agg #[.int .i64 s, .int .i64 g], .bool ok] w fun e w' => e = .returned (.agg #[.int .i64 SS, .int .i64 g]) ∧ Below w.heap.size w w'))
    (HG : Hid (∀ w, Calls Try.prog 11 #[.agg #[.int .i64 s, .int .i64 g], .bool ok] w fun e w' => e = .returned (.agg #[.int .i64 s, .int .i64 GG]) ∧ Below w.heap.size w w'))
    (HGr : Hid (∀ w, Calls Try.prog 12 #[.agg #[.int .i64 s, .int .i64 g], .bool ok] w fun e w' => e = .returned (.agg #[.int .i64 s, .int .i64 GG]) ∧ Below w.heap.size w w'))
    (HO : Hid (∀ w, Calls Try.prog 13 #[.agg #[.int .i64 s, .int .i64 g]] w fun e w' => e = .returned (.bool O) ∧ Below w.heap.size w w'))
    (HOr : Hid (∀ w, Calls Try.prog 14 #[.agg #[.int .i64 s, .int .i64 g]] w fun e w' => e = .returned (.bool O) ∧ Below w.heap.size w w'))
    (HP : Hid (∀ w, Calls Try.prog 15 #[.agg #[.int .i64 s, .int .i64 g]] w fun e w' => e = .returned (.bool P) ∧ Below w.heap.size w w'))
    (HPr : Hid (∀ w, Calls Try.prog 16 #[.agg #[.int .i64 s, .int .i64 g]] w fun e w' => e = .returned (.bool P) ∧ Below w.heap.size w w')) :
    Calls Try.prog 3 #[.agg #[.int .i64 s, .int .i64 g], .bool ok] W fun e w' => e = .returned (.bool true) ∧ Below W.heap.size W w' := by
  go_enter Try.func3, Try.ntmps3
  go_wp2_with fail
  refine (known5_any _).mono ?_
  rintro e w1 ⟨rfl, hb1⟩
  have L0 : Hid (LiesC w1 W.heap.size s g) := (LiesC.new W s g).on hb1
  have hA : Hid (Below W.heap.size W w1) := below_joinC ((Below.refl _ _).alloc (Nat.le_refl _) _) hb1
  have a0 := L0.out.c0
  have a1 := L0.out.c1
  clear hb1
  go_wp2_with fail
  refine Lw.wp_region_quiet_below (by kernel_rfl) (by kernel_rfl) ?_
  repeat (first
    | go_big_quiet_skip
    | (go_big_quiet_want; go_big_quiet_op; go_big_quiet_on)
    | (go_big_quiet_want; go_big_quiet_op; apply Exists.intro; refine ⟨fun _ hb' => ?_, ?_⟩; (first
      | exact Lw.val_rfl _
      | (go_at_call 8; exact Lw.calls_below hb' (HI.out _))
      | (go_at_call 9; exact Lw.calls_below hb' (HS.out _))
      | (go_at_call 10; exact Lw.calls_below hb' (HSr.out _))
      | (go_at_call 11; exact Lw.calls_below hb' (HG.out _))
      | (go_at_call 12; exact Lw.calls_below hb' (HGr.out _))
      | (go_at_call 13; exact Lw.calls_below hb' (HO.out _))
      | (go_at_call 14; exact Lw.calls_below hb' (HOr.out _))
      | (go_at_call 15; exact Lw.calls_below hb' (HP.out _))
      | (go_at_call 16; exact Lw.calls_below hb' (HPr.out _))
      | (simp [go_sem, (L0.out.on hb').c0, (L0.out.on hb').c1]; rfl)); go_big_quiet_on))
  refine wpQuiet_nil ?_
  intro w2 hb2
  have hA2 := below_joinC hA.out hb2
  go_wp2
  go_ret
  exact ⟨rfl, hA2⟩
set_option maxRecDepth 100000 in
set_option maxHeartbeats 4000000 in
theorem t_1 (s g SS GG : Int) (ok O P : Bool) (h1 : ¬ 0 ≤ s) (W : World)
    (HI : Hid (∀ w, Calls Try.prog 8 #[.agg #[.int .i64 s, .int .i64 g]] w fun e w' => e = .returned (.bool false) ∧ Below w.heap.size w w'))
    (HS : Hid (∀ w, Calls Try.prog 9 #[.agg #[.int .i64 s, .int .i64 g], .bool ok] w fun e w' => e = .returned (.agg #[.int .i64 SS, .int .i64 g]) ∧ Below w.heap.size w w'))
    (HSr : Hid (∀ w, Calls Try.prog 10 #[.agg #[.int .i64 s, .int .i64 g], .bool ok] w fun e w' => e = .returned (.agg #[.int .i64 SS, .int .i64 g]) ∧ Below w.heap.size w w'))
    (HG : Hid (∀ w, Calls Try.prog 11 #[.agg #[.int .i64 s, .int .i64 g], .bool ok] w fun e w' => e = .returned (.agg #[.int .i64 s, .int .i64 GG]) ∧ Below w.heap.size w w'))
    (HGr : Hid (∀ w, Calls Try.prog 12 #[.agg #[.int .i64 s, .int .i64 g], .bool ok] w fun e w' => e = .returned (.agg #[.int .i64 s, .int .i64 GG]) ∧ Below w.heap.size w w'))
    (HO : Hid (∀ w, Calls Try.prog 13 #[.agg #[.int .i64 s, .int .i64 g]] w fun e w' => e = .returned (.bool O) ∧ Below w.heap.size w w'))
    (HOr : Hid (∀ w, Calls Try.prog 14 #[.agg #[.int .i64 s, .int .i64 g]] w fun e w' => e = .returned (.bool O) ∧ Below w.heap.size w w'))
    (HP : Hid (∀ w, Calls Try.prog 15 #[.agg #[.int .i64 s, .int .i64 g]] w fun e w' => e = .returned (.bool P) ∧ Below w.heap.size w w'))
    (HPr : Hid (∀ w, Calls Try.prog 16 #[.agg #[.int .i64 s, .int .i64 g]] w fun e w' => e = .returned (.bool P) ∧ Below w.heap.size w w')) :
    Calls Try.prog 3 #[.agg #[.int .i64 s, .int .i64 g], .bool ok] W fun e w' => e = .returned (.bool true) ∧ Below W.heap.size W w' := by
  go_enter Try.func3, Try.ntmps3
  go_wp2_with fail
  refine (known5_any _).mono ?_
  rintro e w1 ⟨rfl, hb1⟩
  have L0 : Hid (LiesC w1 W.heap.size s g) := (LiesC.new W s g).on hb1
  have hA : Hid (Below W.heap.size W w1) := below_joinC ((Below.refl _ _).alloc (Nat.le_refl _) _) hb1
  have a0 := L0.out.c0
  have a1 := L0.out.c1
  clear hb1
  go_wp2_with fail
  refine Lw.wp_region_quiet_below (by kernel_rfl) (by kernel_rfl) ?_
  repeat (first
    | go_big_quiet_skip
    | (go_big_quiet_want; go_big_quiet_op; go_big_quiet_on)
    | (go_big_quiet_want; go_big_quiet_op; apply Exists.intro; refine ⟨fun _ hb' => ?_, ?_⟩; (first
      | exact Lw.val_rfl _
      | (go_at_call 8; exact Lw.calls_below hb' (HI.out _))
      | (go_at_call 9; exact Lw.calls_below hb' (HS.out _))
      | (go_at_call 10; exact Lw.calls_below hb' (HSr.out _))
      | (go_at_call 11; exact Lw.calls_below hb' (HG.out _))
      | (go_at_call 12; exact Lw.calls_below hb' (HGr.out _))
      | (go_at_call 13; exact Lw.calls_below hb' (HO.out _))
      | (go_at_call 14; exact Lw.calls_below hb' (HOr.out _))
      | (go_at_call 15; exact Lw.calls_below hb' (HP.out _))
      | (go_at_call 16; exact Lw.calls_below hb' (HPr.out _))
      | (simp [go_sem, (L0.out.on hb').c0, (L0.out.on hb').c1]; rfl)); go_big_quiet_on))
  refine wpQuiet_nil ?_
  intro w2 hb2
  have hA2 := below_joinC hA.out hb2
  go_wp2
  go_ret
  exact ⟨rfl, hA2⟩
set_option maxRecDepth 100000 in
set_option maxHeartbeats 4000000 in
theorem t_2 (s g SS GG : Int) (ok O P : Bool) (h1 : 0 ≤ s) (h2 : ¬ s ≤ 1000) (W : World)
    (HI : Hid (∀ w, Calls Try.prog 8 #[.agg #[.int .i64 s, .int .i64 g]] w fun e w' => e = .returned (.bool false) ∧ Below w.heap.size w w'))
    (HS : Hid (∀ w, Calls Try.prog 9 #[.agg #[.int .i64 s, .int .i64 g], .bool ok] w fun e w' => e = .returned (.agg #[.int .i64 SS, .int .i64 g]) ∧ Below w.heap.size w w'))
    (HSr : Hid (∀ w, Calls Try.prog 10 #[.agg #[.int .i64 s, .int .i64 g], .bool ok] w fun e w' => e = .returned (.agg #[.int .i64 SS, .int .i64 g]) ∧ Below w.heap.size w w'))
    (HG : Hid (∀ w, Calls Try.prog 11 #[.agg #[.int .i64 s, .int .i64 g], .bool ok] w fun e w' => e = .returned (.agg #[.int .i64 s, .int .i64 GG]) ∧ Below w.heap.size w w'))
    (HGr : Hid (∀ w, Calls Try.prog 12 #[.agg #[.int .i64 s, .int .i64 g], .bool ok] w fun e w' => e = .returned (.agg #[.int .i64 s, .int .i64 GG]) ∧ Below w.heap.size w w'))
    (HO : Hid (∀ w, Calls Try.prog 13 #[.agg #[.int .i64 s, .int .i64 g]] w fun e w' => e = .returned (.bool O) ∧ Below w.heap.size w w'))
    (HOr : Hid (∀ w, Calls Try.prog 14 #[.agg #[.int .i64 s, .int .i64 g]] w fun e w' => e = .returned (.bool O) ∧ Below w.heap.size w w'))
    (HP : Hid (∀ w, Calls Try.prog 15 #[.agg #[.int .i64 s, .int .i64 g]] w fun e w' => e = .returned (.bool P) ∧ Below w.heap.size w w'))
    (HPr : Hid (∀ w, Calls Try.prog 16 #[.agg #[.int .i64 s, .int .i64 g]] w fun e w' => e = .returned (.bool P) ∧ Below w.heap.size w w')) :
    Calls Try.prog 3 #[.agg #[.int .i64 s, .int .i64 g], .bool ok] W fun e w' => e = .returned (.bool true) ∧ Below W.heap.size W w' := by
  go_enter Try.func3, Try.ntmps3
  go_wp2_with fail
  refine (known5_any _).mono ?_
  rintro e w1 ⟨rfl, hb1⟩
  have L0 : Hid (LiesC w1 W.heap.size s g) := (LiesC.new W s g).on hb1
  have hA : Hid (Below W.heap.size W w1) := below_joinC ((Below.refl _ _).alloc (Nat.le_refl _) _) hb1
  have a0 := L0.out.c0
  have a1 := L0.out.c1
  clear hb1
  go_wp2_with fail
  refine Lw.wp_region_quiet_below (by kernel_rfl) (by kernel_rfl) ?_
  repeat (first
    | go_big_quiet_skip
    | (go_big_quiet_want; go_big_quiet_op; go_big_quiet_on)
    | (go_big_quiet_want; go_big_quiet_op; apply Exists.intro; refine ⟨fun _ hb' => ?_, ?_⟩; (first
      | exact Lw.val_rfl _
      | (go_at_call 8; exact Lw.calls_below hb' (HI.out _))
      | (go_at_call 9; exact Lw.calls_below hb' (HS.out _))
      | (go_at_call 10; exact Lw.calls_below hb' (HSr.out _))
      | (go_at_call 11; exact Lw.calls_below hb' (HG.out _))
      | (go_at_call 12; exact Lw.calls_below hb' (HGr.out _))
      | (go_at_call 13; exact Lw.calls_below hb' (HO.out _))
      | (go_at_call 14; exact Lw.calls_below hb' (HOr.out _))
      | (go_at_call 15; exact Lw.calls_below hb' (HP.out _))
      | (go_at_call 16; exact Lw.calls_below hb' (HPr.out _))
      | (simp [go_sem, (L0.out.on hb').c0, (L0.out.on hb').c1]; rfl)); go_big_quiet_on))
  refine wpQuiet_nil ?_
  intro w2 hb2
  have hA2 := below_joinC hA.out hb2
  go_wp2
  go_ret
  exact ⟨rfl, hA2⟩
set_option maxRecDepth 100000 in
set_option maxHeartbeats 4000000 in
theorem t_3 (s g SS GG : Int) (ok O P : Bool) (h1 : 0 ≤ s) (h2 : s ≤ 1000) (h3 : ¬ 0 ≤ g) (W : World)
    (HI : Hid (∀ w, Calls Try.prog 8 #[.agg #[.int .i64 s, .int .i64 g]] w fun e w' => e = .returned (.bool false) ∧ Below w.heap.size w w'))
    (HS : Hid (∀ w, Calls Try.prog 9 #[.agg #[.int .i64 s, .int .i64 g], .bool ok] w fun e w' => e = .returned (.agg #[.int .i64 SS, .int .i64 g]) ∧ Below w.heap.size w w'))
    (HSr : Hid (∀ w, Calls Try.prog 10 #[.agg #[.int .i64 s, .int .i64 g], .bool ok] w fun e w' => e = .returned (.agg #[.int .i64 SS, .int .i64 g]) ∧ Below w.heap.size w w'))
    (HG : Hid (∀ w, Calls Try.prog 11 #[.agg #[.int .i64 s, .int .i64 g], .bool ok] w fun e w' => e = .returned (.agg #[.int .i64 s, .int .i64 GG]) ∧ Below w.heap.size w w'))
    (HGr : Hid (∀ w, Calls Try.prog 12 #[.agg #[.int .i64 s, .int .i64 g], .bool ok] w fun e w' => e = .returned (.agg #[.int .i64 s, .int .i64 GG]) ∧ Below w.heap.size w w'))
    (HO : Hid (∀ w, Calls Try.prog 13 #[.agg #[.int .i64 s, .int .i64 g]] w fun e w' => e = .returned (.bool O) ∧ Below w.heap.size w w'))
    (HOr : Hid (∀ w, Calls Try.prog 14 #[.agg #[.int .i64 s, .int .i64 g]] w fun e w' => e = .returned (.bool O) ∧ Below w.heap.size w w'))
    (HP : Hid (∀ w, Calls Try.prog 15 #[.agg #[.int .i64 s, .int .i64 g]] w fun e w' => e = .returned (.bool P) ∧ Below w.heap.size w w'))
    (HPr : Hid (∀ w, Calls Try.prog 16 #[.agg #[.int .i64 s, .int .i64 g]] w fun e w' => e = .returned (.bool P) ∧ Below w.heap.size w w')) :
    Calls Try.prog 3 #[.agg #[.int .i64 s, .int .i64 g], .bool ok] W fun e w' => e = .returned (.bool true) ∧ Below W.heap.size W w' := by
  go_enter Try.func3, Try.ntmps3
  go_wp2_with fail
  refine (known5_any _).mono ?_
  rintro e w1 ⟨rfl, hb1⟩
  have L0 : Hid (LiesC w1 W.heap.size s g) := (LiesC.new W s g).on hb1
  have hA : Hid (Below W.heap.size W w1) := below_joinC ((Below.refl _ _).alloc (Nat.le_refl _) _) hb1
  have a0 := L0.out.c0
  have a1 := L0.out.c1
  clear hb1
  go_wp2_with fail
  refine Lw.wp_region_quiet_below (by kernel_rfl) (by kernel_rfl) ?_
  repeat (first
    | go_big_quiet_skip
    | (go_big_quiet_want; go_big_quiet_op; go_big_quiet_on)
    | (go_big_quiet_want; go_big_quiet_op; apply Exists.intro; refine ⟨fun _ hb' => ?_, ?_⟩; (first
      | exact Lw.val_rfl _
      | (go_at_call 8; exact Lw.calls_below hb' (HI.out _))
      | (go_at_call 9; exact Lw.calls_below hb' (HS.out _))
      | (go_at_call 10; exact Lw.calls_below hb' (HSr.out _))
      | (go_at_call 11; exact Lw.calls_below hb' (HG.out _))
      | (go_at_call 12; exact Lw.calls_below hb' (HGr.out _))
      | (go_at_call 13; exact Lw.calls_below hb' (HO.out _))
      | (go_at_call 14; exact Lw.calls_below hb' (HOr.out _))
      | (go_at_call 15; exact Lw.calls_below hb' (HP.out _))
      | (go_at_call 16; exact Lw.calls_below hb' (HPr.out _))
      | (simp [go_sem, (L0.out.on hb').c0, (L0.out.on hb').c1]; rfl)); go_big_quiet_on))
  refine wpQuiet_nil ?_
  intro w2 hb2
  have hA2 := below_joinC hA.out hb2
  go_wp2
  go_ret
  exact ⟨rfl, hA2⟩
set_option maxRecDepth 100000 in
set_option maxHeartbeats 4000000 in
theorem t_4 (s g SS GG : Int) (ok O P : Bool) (h1 : 0 ≤ s) (h2 : s ≤ 1000) (h3 : 0 ≤ g) (h4 : decide (g ≤ 1000) = false) (W : World)
    (HI : Hid (∀ w, Calls Try.prog 8 #[.agg #[.int .i64 s, .int .i64 g]] w fun e w' => e = .returned (.bool false) ∧ Below w.heap.size w w'))
    (HS : Hid (∀ w, Calls Try.prog 9 #[.agg #[.int .i64 s, .int .i64 g], .bool ok] w fun e w' => e = .returned (.agg #[.int .i64 SS, .int .i64 g]) ∧ Below w.heap.size w w'))
    (HSr : Hid (∀ w, Calls Try.prog 10 #[.agg #[.int .i64 s, .int .i64 g], .bool ok] w fun e w' => e = .returned (.agg #[.int .i64 SS, .int .i64 g]) ∧ Below w.heap.size w w'))
    (HG : Hid (∀ w, Calls Try.prog 11 #[.agg #[.int .i64 s, .int .i64 g], .bool ok] w fun e w' => e = .returned (.agg #[.int .i64 s, .int .i64 GG]) ∧ Below w.heap.size w w'))
    (HGr : Hid (∀ w, Calls Try.prog 12 #[.agg #[.int .i64 s, .int .i64 g], .bool ok] w fun e w' => e = .returned (.agg #[.int .i64 s, .int .i64 GG]) ∧ Below w.heap.size w w'))
    (HO : Hid (∀ w, Calls Try.prog 13 #[.agg #[.int .i64 s, .int .i64 g]] w fun e w' => e = .returned (.bool O) ∧ Below w.heap.size w w'))
    (HOr : Hid (∀ w, Calls Try.prog 14 #[.agg #[.int .i64 s, .int .i64 g]] w fun e w' => e = .returned (.bool O) ∧ Below w.heap.size w w'))
    (HP : Hid (∀ w, Calls Try.prog 15 #[.agg #[.int .i64 s, .int .i64 g]] w fun e w' => e = .returned (.bool P) ∧ Below w.heap.size w w'))
    (HPr : Hid (∀ w, Calls Try.prog 16 #[.agg #[.int .i64 s, .int .i64 g]] w fun e w' => e = .returned (.bool P) ∧ Below w.heap.size w w')) :
    Calls Try.prog 3 #[.agg #[.int .i64 s, .int .i64 g], .bool ok] W fun e w' => e = .returned (.bool true) ∧ Below W.heap.size W w' := by
  go_enter Try.func3, Try.ntmps3
  go_wp2_with fail
  refine (known5_any _).mono ?_
  rintro e w1 ⟨rfl, hb1⟩
  have L0 : Hid (LiesC w1 W.heap.size s g) := (LiesC.new W s g).on hb1
  have hA : Hid (Below W.heap.size W w1) := below_joinC ((Below.refl _ _).alloc (Nat.le_refl _) _) hb1
  have a0 := L0.out.c0
  have a1 := L0.out.c1
  clear hb1
  go_wp2_with fail
  refine Lw.wp_region_quiet_below (by kernel_rfl) (by kernel_rfl) ?_
  repeat (first
    | go_big_quiet_skip
    | (go_big_quiet_want; go_big_quiet_op; go_big_quiet_on)
    | (go_big_quiet_want; go_big_quiet_op; apply Exists.intro; refine ⟨fun _ hb' => ?_, ?_⟩; (first
      | exact Lw.val_rfl _
      | (go_at_call 8; exact Lw.calls_below hb' (HI.out _))
      | (go_at_call 9; exact Lw.calls_below hb' (HS.out _))
      | (go_at_call 10; exact Lw.calls_below hb' (HSr.out _))
      | (go_at_call 11; exact Lw.calls_below hb' (HG.out _))
      | (go_at_call 12; exact Lw.calls_below hb' (HGr.out _))
      | (go_at_call 13; exact Lw.calls_below hb' (HO.out _))
      | (go_at_call 14; exact Lw.calls_below hb' (HOr.out _))
      | (go_at_call 15; exact Lw.calls_below hb' (HP.out _))
      | (go_at_call 16; exact Lw.calls_below hb' (HPr.out _))
      | (simp [go_sem, (L0.out.on hb').c0, (L0.out.on hb').c1]; rfl)); go_big_quiet_on))
  refine wpQuiet_nil ?_
  intro w2 hb2
  have hA2 := below_joinC hA.out hb2
  go_wp2
  go_ret
  exact ⟨rfl, hA2⟩
theorem walk (s g : Int) (ws : (Lit.int .i64 s).wf = true) (wg : (Lit.int .i64 g).wf = true) (ok : Bool) (W : World) :
    Calls Try.prog 3 #[.agg #[.int .i64 s, .int .i64 g], .bool ok] W fun e w' => e = .returned (.bool true) ∧ Below W.heap.size W w' := by
  by_cases h1 : 0 ≤ s
  · by_cases h2 : s ≤ 1000
    · by_cases h3 : 0 ≤ g
      · by_cases h4 : g ≤ 1000
        · exact t_all s g _ _ ok _ _ h1 h2 h3 h4 W (by have h : Km.isC s g = true := decide_eq_true ⟨h1, h2, h3, h4⟩; rw [← h]; exact fun w => kIs_any s g w ws wg) (fun w => kSent_any s g ok w ws wg) (fun w => rsent_any s g ok w) (fun w => kGot_any s g ok w ws wg) (fun w => rgot_any s g ok w) (fun w => kOff_any s g w ws wg) (fun w => roff_any s g w) (fun w => kPas_any s g w ws wg) (fun w => rpas_any s g w)
        · exact t_4 s g _ _ ok _ _ h1 h2 h3 (decide_eq_false h4) W (by have h : Km.isC s g = false := decide_eq_false (by omega); rw [← h]; exact fun w => kIs_any s g w ws wg) (fun w => kSent_any s g ok w ws wg) (fun w => rsent_any s g ok w) (fun w => kGot_any s g ok w ws wg) (fun w => rgot_any s g ok w) (fun w => kOff_any s g w ws wg) (fun w => roff_any s g w) (fun w => kPas_any s g w ws wg) (fun w => rpas_any s g w)
      · exact t_3 s g _ _ ok _ _ h1 h2 h3 W (by have h : Km.isC s g = false := decide_eq_false (by omega); rw [← h]; exact fun w => kIs_any s g w ws wg) (fun w => kSent_any s g ok w ws wg) (fun w => rsent_any s g ok w) (fun w => kGot_any s g ok w ws wg) (fun w => rgot_any s g ok w) (fun w => kOff_any s g w ws wg) (fun w => roff_any s g w) (fun w => kPas_any s g w ws wg) (fun w => rpas_any s g w)
    · exact t_2 s g _ _ ok _ _ h1 h2 W (by have h : Km.isC s g = false := decide_eq_false (by omega); rw [← h]; exact fun w => kIs_any s g w ws wg) (fun w => kSent_any s g ok w ws wg) (fun w => rsent_any s g ok w) (fun w => kGot_any s g ok w ws wg) (fun w => rgot_any s g ok w) (fun w => kOff_any s g w ws wg) (fun w => roff_any s g w) (fun w => kPas_any s g w ws wg) (fun w => rpas_any s g w)
  · exact t_1 s g _ _ ok _ _ h1 W (by have h : Km.isC s g = false := decide_eq_false (by omega); rw [← h]; exact fun w => kIs_any s g w ws wg) (fun w => kSent_any s g ok w ws wg) (fun w => rsent_any s g ok w) (fun w => kGot_any s g ok w ws wg) (fun w => rgot_any s g ok w) (fun w => kOff_any s g w ws wg) (fun w => roff_any s g w) (fun w => kPas_any s g w ws wg) (fun w => rpas_any s g w)
theorem own : ownKnob Try.prog.godebug = none := by kernel_rfl
set_option maxRecDepth 100000 in
theorem lifted (os : Os) (started : os.Started) (H : Type) (enc : TypeId × Value → H) :
    ReturnsInHanded {} Try.checked os 3 .any (Rows.confineTellsSpec.pre6 enc Try.prog Try.f3 Rows.confineTellsRow.domain false) (Rows.confineTellsSpec.post enc Try.prog Try.f3 false true false false) := by
  refine returnsInHanded_of_change (C := Try.checked) own started (by kernel_rfl) Try.func3
    (ChangeSpec.witness6 (enc := enc) (C := Try.checked) false ⟨#[], #[.agg #[.int .i64 0, .int .i64 0], .bool false], []⟩ 8 (by kernel_rfl) (by kernel_rfl) (by kernel_rfl) (by kernel_rfl)) ?_
  intro W base args ds gs before hval0 hW hcnd _
  have hval : ∀ (j : Nat) t v, Try.f3.params[j]? = some t → args[j]? = some v → Value.okWide Try.prog W .any base t v := hval0
  have hW' := hW
  obtain ⟨p, q, hA0, hV, rfl, hfz, hnd⟩ := hW
  have hA : DataW.TrodAll enc Try.prog W 0 (fun _ => true) true Try.f3.params.toList args.toList ds p := hA0
  rw [Try.params3] at hA hval
  obtain ⟨v0, vs0, d0, ds0, p0, q0, hargs, rfl, rfl, h0, r0⟩ := trodAll_cons hA
  obtain ⟨v1, vs1, d1, ds1, p1, q1, rfl, rfl, rfl, h1, r1⟩ := trodAll_cons r0
  obtain ⟨rfl, rfl, rfl⟩ := trodAll_nil r1
  obtain rfl : args = #[v0, v1] := by cases args; simp_all
  obtain ⟨rfl, rfl⟩ := trodVars_none hV
  obtain ⟨a0, b0, rfl, rfl, rfl, w0, wb0⟩ := open_counts (hval 0 23 v0 rfl rfl) h0
  obtain ⟨a1, rfl, rfl, rfl⟩ := open_bool Try.underlying4 (hval 1 4 v1 rfl rfl) h1
  clear hA0 hval0
  refine (walk a0 b0 w0 wb0 a1 W).mono fun e W' ⟨he, bel⟩ => ?_
  subst he
  exact ⟨_, rfl, _, _, _, [], _, [], hW', trodAll_mk1 (shut_bool Try.underlying4 _), (trodAll_cons_mk (shut_counts w0 wb0) (trodAll_cons_mk (shut_bool Try.underlying4 a1) trodAll_mk0)), rfl, bel.frame _, fun h => by cases h⟩
theorem over : Rows.confineTellsRow.holds Try.pinned (OpenSpec.ofChange Rows.confineTellsSpec) :=
  OpenClaim.holds_of_wide 3 Try.f3 rfl rfl rfl rfl rfl rfl rfl ⟨rfl, rfl, rfl, rfl, rfl⟩ rfl rfl rfl rfl rfl (by kernel_rfl) Try.func3 (by kernel_rfl)
    (of_decide_eq_true (by kernel_rfl)) (by unfold Func.isWrapper; first | (rw [if_pos (by decide +kernel)]; kernel_rfl) | (rw [if_neg (by decide +kernel)]; exact ⟨rfl, rfl⟩))
    (fun os started H enc _ => lifted os started H enc)
end Go.Proofs.Ytnldihejdhceoaa.confineTells
namespace Go.Proofs.Ytnldihejdhceoaa
/-- The statement. -/
theorem confineTells_holds : Rows.ConfineTellsSaid := confineTells.over
#print axioms confineTells_holds
end Go.Proofs.Ytnldihejdhceoaa
