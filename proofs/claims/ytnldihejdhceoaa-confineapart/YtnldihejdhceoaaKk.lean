/- Law 5's own 'known' over package confine. -/
import Derived.Test.YtnldihejdhceoaaKb
import Derived.WalkArith
namespace Go.Proofs.Ytnldihejdhceoaa
open Go.RowKit
theorem two_cellsC {w : World} {b : Nat} {s g s' g' : Int} (h : LiesC w b s g) : LiesC ((w.setCell ⟨b, 0, none⟩ (.int .i64 s')).setCell ⟨b, 1, none⟩ (.int .i64 g')) b s' g' := by
  unfold LiesC at h ⊢
  rw [heap_setCell_same _ b 1 #[.int .i64 s', .int .i64 g] 23 (.int .i64 g') (by rw [heap_setCell_same _ b 0 #[.int .i64 s, .int .i64 g] 23 (.int .i64 s') h]; rfl)]
  rfl
set_option maxRecDepth 100000 in
set_option maxHeartbeats 4000000 in
theorem known5_any (W : World) : Calls Try.prog 7 #[] W fun e w' => e = .returned (.bool true) ∧ Below W.heap.size W w' := by
  have HS : Hid (∀ (k : Nat) w, k < 16 → Calls Try.prog 9 #[.agg #[.int .i64 (8 * (k : Int)), .int .i64 0], .bool false] w fun e w' => e = .returned (.agg #[.int .i64 (8 * ((k + 1 : Nat) : Int)), .int .i64 0]) ∧ Below w.heap.size w w') := fun k w hk => by
    have h := kSent_any (8 * (k : Int)) 0 false w (WalkArith.wf_i64 ⟨by omega, by omega⟩) (by decide)
    have e : Km.sentS (8 * (k : Int)) 0 false = 8 * ((k + 1 : Nat) : Int) := by
      unfold Km.sentS Km.sentV
      rw [Km.isC_true (by omega) (by omega) (by decide) (by decide), if_pos rfl, if_neg (by decide)]
      omega
    rw [e] at h
    exact h
  have HG : Hid (∀ w, Calls Try.prog 11 #[.agg #[.int .i64 0, .int .i64 200], .bool true] w fun e w' => e = .returned (.agg #[.int .i64 0, .int .i64 120]) ∧ Below w.heap.size w w') := fun w => kGot_any 0 200 true w (by decide) (by decide)
  have HP : Hid (∀ w, Calls Try.prog 15 #[.agg #[.int .i64 128, .int .i64 0]] w fun e w' => e = .returned (.bool true) ∧ Below w.heap.size w w') := fun w => kPas_any 128 0 w (by decide) (by decide)
  have HO : Hid (∀ w, Calls Try.prog 13 #[.agg #[.int .i64 128, .int .i64 0]] w fun e w' => e = .returned (.bool false) ∧ Below w.heap.size w w') := fun w => kOff_any 128 0 w (by decide) (by decide)
  have HO2 : Hid (∀ w, Calls Try.prog 13 #[.agg #[.int .i64 256, .int .i64 0]] w fun e w' => e = .returned (.bool true) ∧ Below w.heap.size w w') := fun w => kOff_any 256 0 w (by decide) (by decide)
  have HI : Hid (∀ w, Calls Try.prog 8 #[.agg #[.int .i64 128, .int .i64 0]] w fun e w' => e = .returned (.bool true) ∧ Below w.heap.size w w') := fun w => kIs_any 128 0 w (by decide) (by decide)
  have HI2 : Hid (∀ w, Calls Try.prog 8 #[.agg #[.int .i64 (-1), .int .i64 0]] w fun e w' => e = .returned (.bool false) ∧ Below w.heap.size w w') := fun w => kIs_any (-1) 0 w (by decide) (by decide)
  go_enter Try.func7, Try.ntmps7
  go_wp2_with fail
  go_loopw [2] (fun i wr => ∃ k : Nat, k ≤ 16 ∧ i = .int .i64 k ∧ Hid (LiesC wr W.heap.size (8 * (k : Int)) 0) ∧ Hid (Below W.heap.size W wr)) (fun i _ => 16 - (intOf i).toNat)
  case atStart => exact ⟨0, Nat.zero_le _, rfl, LiesC.new W 0 0, (Below.refl _ _).alloc (Nat.le_refl _) _⟩
  case round =>
    obtain ⟨k, hk, rfl, L0, hA⟩ := hrel
    by_cases hlt : k < 16
    · have a0 := L0.out.c0
      have a1 := L0.out.c1
      have HSk : Hid (_) := fun w => HS.out k w hlt
      clear HG HP HO HO2 HI HI2 HS
      go_wp2_with fail
      refine (HSk.out _).mono ?_
      rintro e w1 ⟨rfl, hb1⟩
      replace L0 : Hid (LiesC _ _ _ _) := L0.out.on hb1
      replace hA : Hid (Below W.heap.size W _) := below_joinC hA.out hb1
      clear hb1 a0 a1 HSk
      have a0 := L0.out.c0
      have a1 := L0.out.c1
      have a2 := L0.out.f0
      have a3 := L0.out.f1
      have HW : Hid (LiesC ((w1.setCell ⟨W.heap.size, 0, none⟩ (.int .i64 (8 * ((k + 1 : Nat) : Int)))).setCell ⟨W.heap.size, 1, none⟩ (.int .i64 0)) W.heap.size (8 * ((k + 1 : Nat) : Int)) 0) := two_cellsC L0.out
      have hA2 : Hid (Below W.heap.size W ((w1.setCell ⟨W.heap.size, 0, none⟩ (.int .i64 (8 * ((k + 1 : Nat) : Int)))).setCell ⟨W.heap.size, 1, none⟩ (.int .i64 0))) := (hA.out.setCell (Nat.le_refl _) _).setCell (Nat.le_refl _) _
      clear L0 hA
      go_wp2
      go_roundw
      case rel => exact ⟨k + 1, by omega, by go_num, HW, hA2⟩
      case measure => simp [intOf]; omega
    · obtain rfl : k = 16 := by omega
      have a0 := L0.out.c0
      have a1 := L0.out.c1
      clear HS
      go_wp2_with fail
      refine (HG.out _).mono ?_
      rintro e w1 ⟨rfl, hb1⟩
      replace L0 : Hid (LiesC _ _ _ _) := L0.out.on hb1
      replace hA : Hid (Below W.heap.size W _) := below_joinC hA.out hb1
      clear hb1 a0 a1 HG
      have a0 := fun o => (L0.out.alloc o).c0
      have a1 := fun o => (L0.out.alloc o).c1
      go_wp2_with fail
      refine (HP.out _).mono ?_
      rintro e w2 ⟨rfl, hb2⟩
      have Ld : Hid (LiesC w2 w1.heap.size 0 120) := (LiesC.new w1 0 120).on hb2
      replace L0 : Hid (LiesC _ _ _ _) := (L0.out.alloc _).on hb2
      replace hA : Hid (Below W.heap.size W _) := below_joinC (hA.out.alloc hA.out.size _) hb2
      clear hb2 a0 a1
      have a0 := L0.out.c0
      have a1 := L0.out.c1
      have aL := L0.out.lt
      have d0 := Ld.out.c0
      have d1 := Ld.out.c1
      have dL := Ld.out.lt
      go_wp2_with fail
      refine (HO.out _).mono ?_
      rintro e w3 ⟨rfl, hb3⟩
      replace Ld : Hid (LiesC _ _ _ _) := Ld.out.on hb3
      replace L0 : Hid (LiesC _ _ _ _) := L0.out.on hb3
      replace hA : Hid (Below W.heap.size W _) := below_joinC hA.out hb3
      clear hb3 a0 a1 d0 d1 aL dL
      have a0 := L0.out.c0
      have a1 := L0.out.c1
      have aL := L0.out.lt
      have d0 := Ld.out.c0
      have d1 := Ld.out.c1
      have dL := Ld.out.lt
      go_wp2_with fail
      refine (HO2.out _).mono ?_
      rintro e w4 ⟨rfl, hb4⟩
      replace Ld : Hid (LiesC _ _ _ _) := Ld.out.on hb4
      replace L0 : Hid (LiesC _ _ _ _) := L0.out.on hb4
      replace hA : Hid (Below W.heap.size W _) := below_joinC hA.out hb4
      clear hb4 a0 a1 d0 d1 aL dL
      have a0 := L0.out.c0
      have a1 := L0.out.c1
      have aL := L0.out.lt
      have d0 := Ld.out.c0
      have d1 := Ld.out.c1
      have dL := Ld.out.lt
      go_wp2_with fail
      refine (HI.out _).mono ?_
      rintro e w5 ⟨rfl, hb5⟩
      replace Ld : Hid (LiesC _ _ _ _) := Ld.out.on hb5
      replace L0 : Hid (LiesC _ _ _ _) := L0.out.on hb5
      replace hA : Hid (Below W.heap.size W _) := below_joinC hA.out hb5
      clear hb5 a0 a1 d0 d1 aL dL
      have a0 := L0.out.c0
      have a1 := L0.out.c1
      have aL := L0.out.lt
      have d0 := Ld.out.c0
      have d1 := Ld.out.c1
      have dL := Ld.out.lt
      go_wp2_with fail
      refine (HI2.out _).mono ?_
      rintro e w6 ⟨rfl, hb6⟩
      replace Ld : Hid (LiesC _ _ _ _) := Ld.out.on hb6
      replace L0 : Hid (LiesC _ _ _ _) := L0.out.on hb6
      replace hA : Hid (Below W.heap.size W _) := below_joinC hA.out hb6
      clear hb6 a0 a1 d0 d1 aL dL
      have a0 := L0.out.c0
      have a1 := L0.out.c1
      have aL := L0.out.lt
      have d0 := Ld.out.c0
      have d1 := Ld.out.c1
      have dL := Ld.out.lt
      go_wp2
      all_goals
        go_ret
        exact ⟨rfl, hA.out⟩
end Go.Proofs.Ytnldihejdhceoaa
