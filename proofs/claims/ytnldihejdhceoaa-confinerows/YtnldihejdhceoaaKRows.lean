/- ConfineRows: the counters along a row of frames sent and come, for every slice of at most 300 bytes (longer ones are let by). No condition. -/
import Derived.Test.YtnldihejdhceoaaKk
import Derived.Test.YtnldihejdhceoaaKn
namespace Go.Proofs.Ytnldihejdhceoaa.confineRows
open Go.ChangeShapes Go.WideShapes Go.ChangeAt Go.RowKit
set_option linter.unusedVariables false
theorem wf_k {n : Int} (h1 : 0 ≤ n) (h2 : n ≤ 1000) : (Lit.int .i64 n).wf = true := WalkArith.wf_i64 ⟨by omega, by omega⟩
set_option maxRecDepth 100000 in
set_option maxHeartbeats 8000000 in
theorem row (b off len cap : Nat) (B : Nat → Nat) (hB : ∀ i, B i < 256 ∨ len ≤ i) (hl : len ≤ 300) (W : World) (hcell : ∀ i, i < len → W.cell? ⟨b, off + i, none⟩ = some (.int .u8 (B i : Int))) :
    Calls Try.prog 4 #[.slice (some ⟨b, off, none⟩) len cap] W fun e w' => e = .returned (.bool true) ∧ Below W.heap.size W w' := by
  have HCe : Hid (∀ w', Below W.heap.size W w' → ∀ i, i < len → w'.cell? ⟨b, off + i, none⟩ = some (.int .u8 (B i : Int))) := fun w' hb i hi => by
    have h := hcell i hi
    rw [hb.cell (p := ⟨b, off + i, none⟩) (block_lt_of_cell h)]
    exact h
  clear hcell
  have hB' : Hid (∀ i, B i < 256 ∨ len ≤ i) := hB
  clear hB
  go_enter Try.func4, Try.ntmps4
  go_wp2_with fail
  refine (known5_any _).mono ?_
  rintro e w1 ⟨rfl, hb1⟩
  have hw1 : W.heap.size ≤ w1.heap.size := hb1.size
  go_wp2_with fail
  go_loopw [4, 5, 6] (fun s g i wr => ∃ (k : Nat) (S G : Int), k ≤ len ∧ i = .int .i64 k ∧ s = .int .i64 S ∧ g = .int .i64 G ∧ Hid (0 ≤ S ∧ S ≤ 1000 ∧ 0 ≤ G ∧ G ≤ 1000) ∧ Hid (LiesC wr w1.heap.size S G) ∧ Hid (Below W.heap.size W wr)) (fun _ _ i _ => len - (intOf i).toNat)
  case atStart => exact ⟨0, 0, 0, Nat.zero_le _, rfl, rfl, rfl, ⟨by decide, by decide, by decide, by decide⟩, LiesC.new w1 0 0, hb1.alloc hb1.size _⟩
  case round =>
    obtain ⟨k, S, G, hk, rfl, rfl, rfl, HR, L0, hA⟩ := hrel
    by_cases hlt : k < len
    · have hce := HCe.out _ hA.out k hlt
      have hBk : B k < 256 := by rcases hB'.out k with h | h <;> omega
      generalize B k = V at *
      obtain ⟨h1, h2, h3, h4⟩ := HR.out
      have a0 := L0.out.c0
      have a1 := L0.out.c1
      obtain hv | hv | hv | hv : V % 4 = 0 ∨ V % 4 = 1 ∨ V % 4 = 2 ∨ V % 4 = 3 := by omega
      · by_cases hq : 1 < S
        · have hvI : (V : Int) % 4 = 0 := by omega
          have HS : Hid (∀ w, Calls Try.prog 9 #[.agg #[.int .i64 S, .int .i64 G], .bool true] w fun e w' => e = .returned (.agg #[.int .i64 (S - 1), .int .i64 G]) ∧ Below w.heap.size w w') := fun w => by
            have h := kSent_any S G true w (wf_k h1 h2) (wf_k h3 h4)
            have e : Km.sentS S G true = (S - 1) := by unfold Km.sentS; rw [Km.isC_true h1 h2 h3 h4, if_pos rfl]; unfold Km.sentV; simp; omega
            rw [e] at h
            exact h
          have r1 : 0 ≤ (S - 1) := by omega
          have r2 : (S - 1) ≤ 1000 := by omega
          have r3 : 0 ≤ G := by omega
          have r4 : G ≤ 1000 := by omega
          clear hv
          have q1 : max 0 (S - 1) = S - 1 := by omega
          clear hq
          go_wp2_with fail
          refine (HS.out _).mono ?_
          rintro e w2 ⟨rfl, hb2⟩
          replace L0 : Hid (LiesC _ _ _ _) := L0.out.on hb2
          replace hA : Hid (Below W.heap.size W _) := below_joinC hA.out hb2
          clear hb2 a0 a1 hce
          have a0 := L0.out.c0
          have a1 := L0.out.c1
          have a2 := L0.out.f0
          have a3 := L0.out.f1
          have L1 : Hid (LiesC ((w2.setCell ⟨w1.heap.size, 0, none⟩ (.int .i64 (S - 1))).setCell ⟨w1.heap.size, 1, none⟩ (.int .i64 G)) w1.heap.size (S - 1) G) := two_cellsC L0.out
          have hA1 : Hid (Below W.heap.size W ((w2.setCell ⟨w1.heap.size, 0, none⟩ (.int .i64 (S - 1))).setCell ⟨w1.heap.size, 1, none⟩ (.int .i64 G))) := (hA.out.setCell hw1 _).setCell hw1 _
          clear L0 hA HS
          have HI : Hid (∀ w, Calls Try.prog 8 #[.agg #[.int .i64 (S - 1), .int .i64 G]] w fun e w' => e = .returned (.bool true) ∧ Below w.heap.size w w') := fun w => by
            have h := kIs_any (S - 1) G w (wf_k r1 r2) (wf_k r3 r4)
            rw [Km.isC_true r1 r2 r3 r4] at h
            exact h
          have HR2 : Hid (0 ≤ (S - 1) ∧ (S - 1) ≤ 1000 ∧ 0 ≤ G ∧ G ≤ 1000) := ⟨r1, r2, r3, r4⟩
          clear HR
          by_cases c1 : 256 ≤ (S - 1)
          · skip
            have HO : Hid (∀ w, Calls Try.prog 13 #[.agg #[.int .i64 (S - 1), .int .i64 G]] w fun e w' => e = .returned (.bool true) ∧ Below w.heap.size w w') := fun w => by
              have h := kOff_any (S - 1) G w (wf_k r1 r2) (wf_k r3 r4)
              rw [show Km.offC (S - 1) = true from by unfold Km.offC; first | (simp; done) | (simp; omega)] at h
              exact h
            have HP : Hid (∀ w, Calls Try.prog 15 #[.agg #[.int .i64 (S - 1), .int .i64 G]] w fun e w' => e = .returned (.bool false) ∧ Below w.heap.size w w') := fun w => by
              have h := kPas_any (S - 1) G w (wf_k r1 r2) (wf_k r3 r4)
              rw [show Km.pasC (S - 1) G = false from by unfold Km.pasC Km.offC; first | (simp; done) | (simp; omega)] at h
              exact h
            have d1 : decide (256 ≤ (S - 1)) = true := decide_eq_true (by omega)
            have d2 : decide ((S - 1) < 256) = false := decide_eq_false (by omega)
            clear r1 r2 r3 r4
            try clear c1
            try clear c2
            try clear c3
            go_wp2_with fail
            refine (HO.out _).mono ?_
            rintro e w3 ⟨rfl, hb3⟩
            replace L1 : Hid (LiesC _ _ _ _) := L1.out.on hb3
            replace hA1 : Hid (Below W.heap.size W _) := below_joinC hA1.out hb3
            clear hb3 HO h1 h2 h3 h4 q1
            have z0 := L1.out.c0
            have z1 := L1.out.c1
            go_wp2_with fail
            refine (HP.out _).mono ?_
            rintro e w4 ⟨rfl, hb4⟩
            replace L1 : Hid (LiesC _ _ _ _) := L1.out.on hb4
            replace hA1 : Hid (Below W.heap.size W _) := below_joinC hA1.out hb4
            clear hb4 HP z0 z1
            have z0 := L1.out.c0
            have z1 := L1.out.c1
            go_wp2_with fail
            refine (HI.out _).mono ?_
            rintro e w5 ⟨rfl, hb5⟩
            replace L1 : Hid (LiesC _ _ _ _) := L1.out.on hb5
            replace hA1 : Hid (Below W.heap.size W _) := below_joinC hA1.out hb5
            clear hb5 HI z0 z1
            have z0 := L1.out.c0
            have z1 := L1.out.c1
            go_wp2
            go_roundw
            case rel => exact ⟨k + 1, (S - 1), G, by omega, by go_num, rfl, rfl, HR2, L1, hA1⟩
            case measure => simp [intOf]; omega
          · skip
            by_cases c2 : 128 ≤ (S - 1)
            · skip
              have HO : Hid (∀ w, Calls Try.prog 13 #[.agg #[.int .i64 (S - 1), .int .i64 G]] w fun e w' => e = .returned (.bool false) ∧ Below w.heap.size w w') := fun w => by
                have h := kOff_any (S - 1) G w (wf_k r1 r2) (wf_k r3 r4)
                rw [show Km.offC (S - 1) = false from by unfold Km.offC; first | (simp; done) | (simp; omega)] at h
                exact h
              have HP : Hid (∀ w, Calls Try.prog 15 #[.agg #[.int .i64 (S - 1), .int .i64 G]] w fun e w' => e = .returned (.bool true) ∧ Below w.heap.size w w') := fun w => by
                have h := kPas_any (S - 1) G w (wf_k r1 r2) (wf_k r3 r4)
                rw [show Km.pasC (S - 1) G = true from by unfold Km.pasC Km.offC; first | (simp; done) | (simp; omega)] at h
                exact h
              have d1 : decide (256 ≤ (S - 1)) = false := decide_eq_false (by omega)
              have d2 : decide ((S - 1) < 256) = true := decide_eq_true (by omega)
              have d3 : decide (128 ≤ (S - 1)) = true := decide_eq_true (by omega)
              clear r1 r2 r3 r4
              try clear c1
              try clear c2
              try clear c3
              go_wp2_with fail
              refine (HO.out _).mono ?_
              rintro e w3 ⟨rfl, hb3⟩
              replace L1 : Hid (LiesC _ _ _ _) := L1.out.on hb3
              replace hA1 : Hid (Below W.heap.size W _) := below_joinC hA1.out hb3
              clear hb3 HO h1 h2 h3 h4 q1
              have z0 := L1.out.c0
              have z1 := L1.out.c1
              go_wp2_with fail
              refine (HP.out _).mono ?_
              rintro e w4 ⟨rfl, hb4⟩
              replace L1 : Hid (LiesC _ _ _ _) := L1.out.on hb4
              replace hA1 : Hid (Below W.heap.size W _) := below_joinC hA1.out hb4
              clear hb4 HP z0 z1
              have z0 := L1.out.c0
              have z1 := L1.out.c1
              go_wp2_with fail
              refine (HI.out _).mono ?_
              rintro e w5 ⟨rfl, hb5⟩
              replace L1 : Hid (LiesC _ _ _ _) := L1.out.on hb5
              replace hA1 : Hid (Below W.heap.size W _) := below_joinC hA1.out hb5
              clear hb5 HI z0 z1
              have z0 := L1.out.c0
              have z1 := L1.out.c1
              go_wp2
              go_roundw
              case rel => exact ⟨k + 1, (S - 1), G, by omega, by go_num, rfl, rfl, HR2, L1, hA1⟩
              case measure => simp [intOf]; omega
            · skip
              by_cases c3 : 128 ≤ G
              · skip
                have HO : Hid (∀ w, Calls Try.prog 13 #[.agg #[.int .i64 (S - 1), .int .i64 G]] w fun e w' => e = .returned (.bool false) ∧ Below w.heap.size w w') := fun w => by
                  have h := kOff_any (S - 1) G w (wf_k r1 r2) (wf_k r3 r4)
                  rw [show Km.offC (S - 1) = false from by unfold Km.offC; first | (simp; done) | (simp; omega)] at h
                  exact h
                have HP : Hid (∀ w, Calls Try.prog 15 #[.agg #[.int .i64 (S - 1), .int .i64 G]] w fun e w' => e = .returned (.bool true) ∧ Below w.heap.size w w') := fun w => by
                  have h := kPas_any (S - 1) G w (wf_k r1 r2) (wf_k r3 r4)
                  rw [show Km.pasC (S - 1) G = true from by unfold Km.pasC Km.offC; first | (simp; done) | (simp; omega)] at h
                  exact h
                have d1 : decide (256 ≤ (S - 1)) = false := decide_eq_false (by omega)
                have d2 : decide ((S - 1) < 256) = true := decide_eq_true (by omega)
                have d3 : decide (128 ≤ (S - 1)) = false := decide_eq_false (by omega)
                have d4 : decide (128 ≤ G) = true := decide_eq_true (by omega)
                clear r1 r2 r3 r4
                try clear c1
                try clear c2
                try clear c3
                go_wp2_with fail
                refine (HO.out _).mono ?_
                rintro e w3 ⟨rfl, hb3⟩
                replace L1 : Hid (LiesC _ _ _ _) := L1.out.on hb3
                replace hA1 : Hid (Below W.heap.size W _) := below_joinC hA1.out hb3
                clear hb3 HO h1 h2 h3 h4 q1
                have z0 := L1.out.c0
                have z1 := L1.out.c1
                go_wp2_with fail
                refine (HP.out _).mono ?_
                rintro e w4 ⟨rfl, hb4⟩
                replace L1 : Hid (LiesC _ _ _ _) := L1.out.on hb4
                replace hA1 : Hid (Below W.heap.size W _) := below_joinC hA1.out hb4
                clear hb4 HP z0 z1
                have z0 := L1.out.c0
                have z1 := L1.out.c1
                go_wp2_with fail
                refine (HI.out _).mono ?_
                rintro e w5 ⟨rfl, hb5⟩
                replace L1 : Hid (LiesC _ _ _ _) := L1.out.on hb5
                replace hA1 : Hid (Below W.heap.size W _) := below_joinC hA1.out hb5
                clear hb5 HI z0 z1
                have z0 := L1.out.c0
                have z1 := L1.out.c1
                go_wp2
                go_roundw
                case rel => exact ⟨k + 1, (S - 1), G, by omega, by go_num, rfl, rfl, HR2, L1, hA1⟩
                case measure => simp [intOf]; omega
              · skip
                have HO : Hid (∀ w, Calls Try.prog 13 #[.agg #[.int .i64 (S - 1), .int .i64 G]] w fun e w' => e = .returned (.bool false) ∧ Below w.heap.size w w') := fun w => by
                  have h := kOff_any (S - 1) G w (wf_k r1 r2) (wf_k r3 r4)
                  rw [show Km.offC (S - 1) = false from by unfold Km.offC; first | (simp; done) | (simp; omega)] at h
                  exact h
                have HP : Hid (∀ w, Calls Try.prog 15 #[.agg #[.int .i64 (S - 1), .int .i64 G]] w fun e w' => e = .returned (.bool false) ∧ Below w.heap.size w w') := fun w => by
                  have h := kPas_any (S - 1) G w (wf_k r1 r2) (wf_k r3 r4)
                  rw [show Km.pasC (S - 1) G = false from by unfold Km.pasC Km.offC; first | (simp; done) | (simp; omega)] at h
                  exact h
                have d1 : decide (256 ≤ (S - 1)) = false := decide_eq_false (by omega)
                have d2 : decide ((S - 1) < 256) = true := decide_eq_true (by omega)
                have d3 : decide (128 ≤ (S - 1)) = false := decide_eq_false (by omega)
                have d4 : decide (128 ≤ G) = false := decide_eq_false (by omega)
                clear r1 r2 r3 r4
                try clear c1
                try clear c2
                try clear c3
                go_wp2_with fail
                refine (HO.out _).mono ?_
                rintro e w3 ⟨rfl, hb3⟩
                replace L1 : Hid (LiesC _ _ _ _) := L1.out.on hb3
                replace hA1 : Hid (Below W.heap.size W _) := below_joinC hA1.out hb3
                clear hb3 HO h1 h2 h3 h4 q1
                have z0 := L1.out.c0
                have z1 := L1.out.c1
                go_wp2_with fail
                refine (HP.out _).mono ?_
                rintro e w4 ⟨rfl, hb4⟩
                replace L1 : Hid (LiesC _ _ _ _) := L1.out.on hb4
                replace hA1 : Hid (Below W.heap.size W _) := below_joinC hA1.out hb4
                clear hb4 HP z0 z1
                have z0 := L1.out.c0
                have z1 := L1.out.c1
                go_wp2_with fail
                refine (HI.out _).mono ?_
                rintro e w5 ⟨rfl, hb5⟩
                replace L1 : Hid (LiesC _ _ _ _) := L1.out.on hb5
                replace hA1 : Hid (Below W.heap.size W _) := below_joinC hA1.out hb5
                clear hb5 HI z0 z1
                have z0 := L1.out.c0
                have z1 := L1.out.c1
                go_wp2
                go_roundw
                case rel => exact ⟨k + 1, (S - 1), G, by omega, by go_num, rfl, rfl, HR2, L1, hA1⟩
                case measure => simp [intOf]; omega
        · have hvI : (V : Int) % 4 = 0 := by omega
          have HS : Hid (∀ w, Calls Try.prog 9 #[.agg #[.int .i64 S, .int .i64 G], .bool true] w fun e w' => e = .returned (.agg #[.int .i64 (0 : Int), .int .i64 G]) ∧ Below w.heap.size w w') := fun w => by
            have h := kSent_any S G true w (wf_k h1 h2) (wf_k h3 h4)
            have e : Km.sentS S G true = (0 : Int) := by unfold Km.sentS; rw [Km.isC_true h1 h2 h3 h4, if_pos rfl]; unfold Km.sentV; simp; omega
            rw [e] at h
            exact h
          have r1 : 0 ≤ (0 : Int) := by omega
          have r2 : (0 : Int) ≤ 1000 := by omega
          have r3 : 0 ≤ G := by omega
          have r4 : G ≤ 1000 := by omega
          clear hv
          have q1 : max 0 (S - 1) = 0 := by omega
          clear hq
          go_wp2_with fail
          refine (HS.out _).mono ?_
          rintro e w2 ⟨rfl, hb2⟩
          replace L0 : Hid (LiesC _ _ _ _) := L0.out.on hb2
          replace hA : Hid (Below W.heap.size W _) := below_joinC hA.out hb2
          clear hb2 a0 a1 hce
          have a0 := L0.out.c0
          have a1 := L0.out.c1
          have a2 := L0.out.f0
          have a3 := L0.out.f1
          have L1 : Hid (LiesC ((w2.setCell ⟨w1.heap.size, 0, none⟩ (.int .i64 (0 : Int))).setCell ⟨w1.heap.size, 1, none⟩ (.int .i64 G)) w1.heap.size (0 : Int) G) := two_cellsC L0.out
          have hA1 : Hid (Below W.heap.size W ((w2.setCell ⟨w1.heap.size, 0, none⟩ (.int .i64 (0 : Int))).setCell ⟨w1.heap.size, 1, none⟩ (.int .i64 G))) := (hA.out.setCell hw1 _).setCell hw1 _
          clear L0 hA HS
          have HI : Hid (∀ w, Calls Try.prog 8 #[.agg #[.int .i64 (0 : Int), .int .i64 G]] w fun e w' => e = .returned (.bool true) ∧ Below w.heap.size w w') := fun w => by
            have h := kIs_any (0 : Int) G w (wf_k r1 r2) (wf_k r3 r4)
            rw [Km.isC_true r1 r2 r3 r4] at h
            exact h
          have HR2 : Hid (0 ≤ (0 : Int) ∧ (0 : Int) ≤ 1000 ∧ 0 ≤ G ∧ G ≤ 1000) := ⟨r1, r2, r3, r4⟩
          clear HR
          by_cases c3 : 128 ≤ G
          · skip
            have HO : Hid (∀ w, Calls Try.prog 13 #[.agg #[.int .i64 (0 : Int), .int .i64 G]] w fun e w' => e = .returned (.bool false) ∧ Below w.heap.size w w') := fun w => by
              have h := kOff_any (0 : Int) G w (wf_k r1 r2) (wf_k r3 r4)
              rw [show Km.offC (0 : Int) = false from by unfold Km.offC; first | (simp; done) | (simp; omega)] at h
              exact h
            have HP : Hid (∀ w, Calls Try.prog 15 #[.agg #[.int .i64 (0 : Int), .int .i64 G]] w fun e w' => e = .returned (.bool true) ∧ Below w.heap.size w w') := fun w => by
              have h := kPas_any (0 : Int) G w (wf_k r1 r2) (wf_k r3 r4)
              rw [show Km.pasC (0 : Int) G = true from by unfold Km.pasC Km.offC; first | (simp; done) | (simp; omega)] at h
              exact h
            have d1 : decide (256 ≤ (0 : Int)) = false := decide_eq_false (by omega)
            have d2 : decide ((0 : Int) < 256) = true := decide_eq_true (by omega)
            have d3 : decide (128 ≤ (0 : Int)) = false := decide_eq_false (by omega)
            have d4 : decide (128 ≤ G) = true := decide_eq_true (by omega)
            clear r1 r2 r3 r4
            try clear c1
            try clear c2
            try clear c3
            go_wp2_with fail
            refine (HO.out _).mono ?_
            rintro e w3 ⟨rfl, hb3⟩
            replace L1 : Hid (LiesC _ _ _ _) := L1.out.on hb3
            replace hA1 : Hid (Below W.heap.size W _) := below_joinC hA1.out hb3
            clear hb3 HO h1 h2 h3 h4 q1
            have z0 := L1.out.c0
            have z1 := L1.out.c1
            go_wp2_with fail
            refine (HP.out _).mono ?_
            rintro e w4 ⟨rfl, hb4⟩
            replace L1 : Hid (LiesC _ _ _ _) := L1.out.on hb4
            replace hA1 : Hid (Below W.heap.size W _) := below_joinC hA1.out hb4
            clear hb4 HP z0 z1
            have z0 := L1.out.c0
            have z1 := L1.out.c1
            go_wp2_with fail
            refine (HI.out _).mono ?_
            rintro e w5 ⟨rfl, hb5⟩
            replace L1 : Hid (LiesC _ _ _ _) := L1.out.on hb5
            replace hA1 : Hid (Below W.heap.size W _) := below_joinC hA1.out hb5
            clear hb5 HI z0 z1
            have z0 := L1.out.c0
            have z1 := L1.out.c1
            go_wp2
            go_roundw
            case rel => exact ⟨k + 1, (0 : Int), G, by omega, by go_num, rfl, rfl, HR2, L1, hA1⟩
            case measure => simp [intOf]; omega
          · skip
            have HO : Hid (∀ w, Calls Try.prog 13 #[.agg #[.int .i64 (0 : Int), .int .i64 G]] w fun e w' => e = .returned (.bool false) ∧ Below w.heap.size w w') := fun w => by
              have h := kOff_any (0 : Int) G w (wf_k r1 r2) (wf_k r3 r4)
              rw [show Km.offC (0 : Int) = false from by unfold Km.offC; first | (simp; done) | (simp; omega)] at h
              exact h
            have HP : Hid (∀ w, Calls Try.prog 15 #[.agg #[.int .i64 (0 : Int), .int .i64 G]] w fun e w' => e = .returned (.bool false) ∧ Below w.heap.size w w') := fun w => by
              have h := kPas_any (0 : Int) G w (wf_k r1 r2) (wf_k r3 r4)
              rw [show Km.pasC (0 : Int) G = false from by unfold Km.pasC Km.offC; first | (simp; done) | (simp; omega)] at h
              exact h
            have d1 : decide (256 ≤ (0 : Int)) = false := decide_eq_false (by omega)
            have d2 : decide ((0 : Int) < 256) = true := decide_eq_true (by omega)
            have d3 : decide (128 ≤ (0 : Int)) = false := decide_eq_false (by omega)
            have d4 : decide (128 ≤ G) = false := decide_eq_false (by omega)
            clear r1 r2 r3 r4
            try clear c1
            try clear c2
            try clear c3
            go_wp2_with fail
            refine (HO.out _).mono ?_
            rintro e w3 ⟨rfl, hb3⟩
            replace L1 : Hid (LiesC _ _ _ _) := L1.out.on hb3
            replace hA1 : Hid (Below W.heap.size W _) := below_joinC hA1.out hb3
            clear hb3 HO h1 h2 h3 h4 q1
            have z0 := L1.out.c0
            have z1 := L1.out.c1
            go_wp2_with fail
            refine (HP.out _).mono ?_
            rintro e w4 ⟨rfl, hb4⟩
            replace L1 : Hid (LiesC _ _ _ _) := L1.out.on hb4
            replace hA1 : Hid (Below W.heap.size W _) := below_joinC hA1.out hb4
            clear hb4 HP z0 z1
            have z0 := L1.out.c0
            have z1 := L1.out.c1
            go_wp2_with fail
            refine (HI.out _).mono ?_
            rintro e w5 ⟨rfl, hb5⟩
            replace L1 : Hid (LiesC _ _ _ _) := L1.out.on hb5
            replace hA1 : Hid (Below W.heap.size W _) := below_joinC hA1.out hb5
            clear hb5 HI z0 z1
            have z0 := L1.out.c0
            have z1 := L1.out.c1
            go_wp2
            go_roundw
            case rel => exact ⟨k + 1, (0 : Int), G, by omega, by go_num, rfl, rfl, HR2, L1, hA1⟩
            case measure => simp [intOf]; omega
      · by_cases hq : S + 8 < 1000
        · have hvI : (V : Int) % 4 = 1 := by omega
          have HS : Hid (∀ w, Calls Try.prog 9 #[.agg #[.int .i64 S, .int .i64 G], .bool false] w fun e w' => e = .returned (.agg #[.int .i64 (S + 8), .int .i64 G]) ∧ Below w.heap.size w w') := fun w => by
            have h := kSent_any S G false w (wf_k h1 h2) (wf_k h3 h4)
            have e : Km.sentS S G false = (S + 8) := by unfold Km.sentS; rw [Km.isC_true h1 h2 h3 h4, if_pos rfl]; unfold Km.sentV; simp; omega
            rw [e] at h
            exact h
          have r1 : 0 ≤ (S + 8) := by omega
          have r2 : (S + 8) ≤ 1000 := by omega
          have r3 : 0 ≤ G := by omega
          have r4 : G ≤ 1000 := by omega
          clear hv
          have q1 : min 1000 (S + 8) = S + 8 := by omega
          clear hq
          go_wp2_with fail
          refine (HS.out _).mono ?_
          rintro e w2 ⟨rfl, hb2⟩
          replace L0 : Hid (LiesC _ _ _ _) := L0.out.on hb2
          replace hA : Hid (Below W.heap.size W _) := below_joinC hA.out hb2
          clear hb2 a0 a1 hce
          have a0 := L0.out.c0
          have a1 := L0.out.c1
          have a2 := L0.out.f0
          have a3 := L0.out.f1
          have L1 : Hid (LiesC ((w2.setCell ⟨w1.heap.size, 0, none⟩ (.int .i64 (S + 8))).setCell ⟨w1.heap.size, 1, none⟩ (.int .i64 G)) w1.heap.size (S + 8) G) := two_cellsC L0.out
          have hA1 : Hid (Below W.heap.size W ((w2.setCell ⟨w1.heap.size, 0, none⟩ (.int .i64 (S + 8))).setCell ⟨w1.heap.size, 1, none⟩ (.int .i64 G))) := (hA.out.setCell hw1 _).setCell hw1 _
          clear L0 hA HS
          have HI : Hid (∀ w, Calls Try.prog 8 #[.agg #[.int .i64 (S + 8), .int .i64 G]] w fun e w' => e = .returned (.bool true) ∧ Below w.heap.size w w') := fun w => by
            have h := kIs_any (S + 8) G w (wf_k r1 r2) (wf_k r3 r4)
            rw [Km.isC_true r1 r2 r3 r4] at h
            exact h
          have HR2 : Hid (0 ≤ (S + 8) ∧ (S + 8) ≤ 1000 ∧ 0 ≤ G ∧ G ≤ 1000) := ⟨r1, r2, r3, r4⟩
          clear HR
          by_cases c1 : 256 ≤ (S + 8)
          · skip
            have HO : Hid (∀ w, Calls Try.prog 13 #[.agg #[.int .i64 (S + 8), .int .i64 G]] w fun e w' => e = .returned (.bool true) ∧ Below w.heap.size w w') := fun w => by
              have h := kOff_any (S + 8) G w (wf_k r1 r2) (wf_k r3 r4)
              rw [show Km.offC (S + 8) = true from by unfold Km.offC; first | (simp; done) | (simp; omega)] at h
              exact h
            have HP : Hid (∀ w, Calls Try.prog 15 #[.agg #[.int .i64 (S + 8), .int .i64 G]] w fun e w' => e = .returned (.bool false) ∧ Below w.heap.size w w') := fun w => by
              have h := kPas_any (S + 8) G w (wf_k r1 r2) (wf_k r3 r4)
              rw [show Km.pasC (S + 8) G = false from by unfold Km.pasC Km.offC; first | (simp; done) | (simp; omega)] at h
              exact h
            have d1 : decide (256 ≤ (S + 8)) = true := decide_eq_true (by omega)
            have d2 : decide ((S + 8) < 256) = false := decide_eq_false (by omega)
            clear r1 r2 r3 r4
            try clear c1
            try clear c2
            try clear c3
            go_wp2_with fail
            refine (HO.out _).mono ?_
            rintro e w3 ⟨rfl, hb3⟩
            replace L1 : Hid (LiesC _ _ _ _) := L1.out.on hb3
            replace hA1 : Hid (Below W.heap.size W _) := below_joinC hA1.out hb3
            clear hb3 HO h1 h2 h3 h4 q1
            have z0 := L1.out.c0
            have z1 := L1.out.c1
            go_wp2_with fail
            refine (HP.out _).mono ?_
            rintro e w4 ⟨rfl, hb4⟩
            replace L1 : Hid (LiesC _ _ _ _) := L1.out.on hb4
            replace hA1 : Hid (Below W.heap.size W _) := below_joinC hA1.out hb4
            clear hb4 HP z0 z1
            have z0 := L1.out.c0
            have z1 := L1.out.c1
            go_wp2_with fail
            refine (HI.out _).mono ?_
            rintro e w5 ⟨rfl, hb5⟩
            replace L1 : Hid (LiesC _ _ _ _) := L1.out.on hb5
            replace hA1 : Hid (Below W.heap.size W _) := below_joinC hA1.out hb5
            clear hb5 HI z0 z1
            have z0 := L1.out.c0
            have z1 := L1.out.c1
            go_wp2
            go_roundw
            case rel => exact ⟨k + 1, (S + 8), G, by omega, by go_num, rfl, rfl, HR2, L1, hA1⟩
            case measure => simp [intOf]; omega
          · skip
            by_cases c2 : 128 ≤ (S + 8)
            · skip
              have HO : Hid (∀ w, Calls Try.prog 13 #[.agg #[.int .i64 (S + 8), .int .i64 G]] w fun e w' => e = .returned (.bool false) ∧ Below w.heap.size w w') := fun w => by
                have h := kOff_any (S + 8) G w (wf_k r1 r2) (wf_k r3 r4)
                rw [show Km.offC (S + 8) = false from by unfold Km.offC; first | (simp; done) | (simp; omega)] at h
                exact h
              have HP : Hid (∀ w, Calls Try.prog 15 #[.agg #[.int .i64 (S + 8), .int .i64 G]] w fun e w' => e = .returned (.bool true) ∧ Below w.heap.size w w') := fun w => by
                have h := kPas_any (S + 8) G w (wf_k r1 r2) (wf_k r3 r4)
                rw [show Km.pasC (S + 8) G = true from by unfold Km.pasC Km.offC; first | (simp; done) | (simp; omega)] at h
                exact h
              have d1 : decide (256 ≤ (S + 8)) = false := decide_eq_false (by omega)
              have d2 : decide ((S + 8) < 256) = true := decide_eq_true (by omega)
              have d3 : decide (128 ≤ (S + 8)) = true := decide_eq_true (by omega)
              clear r1 r2 r3 r4
              try clear c1
              try clear c2
              try clear c3
              go_wp2_with fail
              refine (HO.out _).mono ?_
              rintro e w3 ⟨rfl, hb3⟩
              replace L1 : Hid (LiesC _ _ _ _) := L1.out.on hb3
              replace hA1 : Hid (Below W.heap.size W _) := below_joinC hA1.out hb3
              clear hb3 HO h1 h2 h3 h4 q1
              have z0 := L1.out.c0
              have z1 := L1.out.c1
              go_wp2_with fail
              refine (HP.out _).mono ?_
              rintro e w4 ⟨rfl, hb4⟩
              replace L1 : Hid (LiesC _ _ _ _) := L1.out.on hb4
              replace hA1 : Hid (Below W.heap.size W _) := below_joinC hA1.out hb4
              clear hb4 HP z0 z1
              have z0 := L1.out.c0
              have z1 := L1.out.c1
              go_wp2_with fail
              refine (HI.out _).mono ?_
              rintro e w5 ⟨rfl, hb5⟩
              replace L1 : Hid (LiesC _ _ _ _) := L1.out.on hb5
              replace hA1 : Hid (Below W.heap.size W _) := below_joinC hA1.out hb5
              clear hb5 HI z0 z1
              have z0 := L1.out.c0
              have z1 := L1.out.c1
              go_wp2
              go_roundw
              case rel => exact ⟨k + 1, (S + 8), G, by omega, by go_num, rfl, rfl, HR2, L1, hA1⟩
              case measure => simp [intOf]; omega
            · skip
              by_cases c3 : 128 ≤ G
              · skip
                have HO : Hid (∀ w, Calls Try.prog 13 #[.agg #[.int .i64 (S + 8), .int .i64 G]] w fun e w' => e = .returned (.bool false) ∧ Below w.heap.size w w') := fun w => by
                  have h := kOff_any (S + 8) G w (wf_k r1 r2) (wf_k r3 r4)
                  rw [show Km.offC (S + 8) = false from by unfold Km.offC; first | (simp; done) | (simp; omega)] at h
                  exact h
                have HP : Hid (∀ w, Calls Try.prog 15 #[.agg #[.int .i64 (S + 8), .int .i64 G]] w fun e w' => e = .returned (.bool true) ∧ Below w.heap.size w w') := fun w => by
                  have h := kPas_any (S + 8) G w (wf_k r1 r2) (wf_k r3 r4)
                  rw [show Km.pasC (S + 8) G = true from by unfold Km.pasC Km.offC; first | (simp; done) | (simp; omega)] at h
                  exact h
                have d1 : decide (256 ≤ (S + 8)) = false := decide_eq_false (by omega)
                have d2 : decide ((S + 8) < 256) = true := decide_eq_true (by omega)
                have d3 : decide (128 ≤ (S + 8)) = false := decide_eq_false (by omega)
                have d4 : decide (128 ≤ G) = true := decide_eq_true (by omega)
                clear r1 r2 r3 r4
                try clear c1
                try clear c2
                try clear c3
                go_wp2_with fail
                refine (HO.out _).mono ?_
                rintro e w3 ⟨rfl, hb3⟩
                replace L1 : Hid (LiesC _ _ _ _) := L1.out.on hb3
                replace hA1 : Hid (Below W.heap.size W _) := below_joinC hA1.out hb3
                clear hb3 HO h1 h2 h3 h4 q1
                have z0 := L1.out.c0
                have z1 := L1.out.c1
                go_wp2_with fail
                refine (HP.out _).mono ?_
                rintro e w4 ⟨rfl, hb4⟩
                replace L1 : Hid (LiesC _ _ _ _) := L1.out.on hb4
                replace hA1 : Hid (Below W.heap.size W _) := below_joinC hA1.out hb4
                clear hb4 HP z0 z1
                have z0 := L1.out.c0
                have z1 := L1.out.c1
                go_wp2_with fail
                refine (HI.out _).mono ?_
                rintro e w5 ⟨rfl, hb5⟩
                replace L1 : Hid (LiesC _ _ _ _) := L1.out.on hb5
                replace hA1 : Hid (Below W.heap.size W _) := below_joinC hA1.out hb5
                clear hb5 HI z0 z1
                have z0 := L1.out.c0
                have z1 := L1.out.c1
                go_wp2
                go_roundw
                case rel => exact ⟨k + 1, (S + 8), G, by omega, by go_num, rfl, rfl, HR2, L1, hA1⟩
                case measure => simp [intOf]; omega
              · skip
                have HO : Hid (∀ w, Calls Try.prog 13 #[.agg #[.int .i64 (S + 8), .int .i64 G]] w fun e w' => e = .returned (.bool false) ∧ Below w.heap.size w w') := fun w => by
                  have h := kOff_any (S + 8) G w (wf_k r1 r2) (wf_k r3 r4)
                  rw [show Km.offC (S + 8) = false from by unfold Km.offC; first | (simp; done) | (simp; omega)] at h
                  exact h
                have HP : Hid (∀ w, Calls Try.prog 15 #[.agg #[.int .i64 (S + 8), .int .i64 G]] w fun e w' => e = .returned (.bool false) ∧ Below w.heap.size w w') := fun w => by
                  have h := kPas_any (S + 8) G w (wf_k r1 r2) (wf_k r3 r4)
                  rw [show Km.pasC (S + 8) G = false from by unfold Km.pasC Km.offC; first | (simp; done) | (simp; omega)] at h
                  exact h
                have d1 : decide (256 ≤ (S + 8)) = false := decide_eq_false (by omega)
                have d2 : decide ((S + 8) < 256) = true := decide_eq_true (by omega)
                have d3 : decide (128 ≤ (S + 8)) = false := decide_eq_false (by omega)
                have d4 : decide (128 ≤ G) = false := decide_eq_false (by omega)
                clear r1 r2 r3 r4
                try clear c1
                try clear c2
                try clear c3
                go_wp2_with fail
                refine (HO.out _).mono ?_
                rintro e w3 ⟨rfl, hb3⟩
                replace L1 : Hid (LiesC _ _ _ _) := L1.out.on hb3
                replace hA1 : Hid (Below W.heap.size W _) := below_joinC hA1.out hb3
                clear hb3 HO h1 h2 h3 h4 q1
                have z0 := L1.out.c0
                have z1 := L1.out.c1
                go_wp2_with fail
                refine (HP.out _).mono ?_
                rintro e w4 ⟨rfl, hb4⟩
                replace L1 : Hid (LiesC _ _ _ _) := L1.out.on hb4
                replace hA1 : Hid (Below W.heap.size W _) := below_joinC hA1.out hb4
                clear hb4 HP z0 z1
                have z0 := L1.out.c0
                have z1 := L1.out.c1
                go_wp2_with fail
                refine (HI.out _).mono ?_
                rintro e w5 ⟨rfl, hb5⟩
                replace L1 : Hid (LiesC _ _ _ _) := L1.out.on hb5
                replace hA1 : Hid (Below W.heap.size W _) := below_joinC hA1.out hb5
                clear hb5 HI z0 z1
                have z0 := L1.out.c0
                have z1 := L1.out.c1
                go_wp2
                go_roundw
                case rel => exact ⟨k + 1, (S + 8), G, by omega, by go_num, rfl, rfl, HR2, L1, hA1⟩
                case measure => simp [intOf]; omega
        · have hvI : (V : Int) % 4 = 1 := by omega
          have HS : Hid (∀ w, Calls Try.prog 9 #[.agg #[.int .i64 S, .int .i64 G], .bool false] w fun e w' => e = .returned (.agg #[.int .i64 (1000 : Int), .int .i64 G]) ∧ Below w.heap.size w w') := fun w => by
            have h := kSent_any S G false w (wf_k h1 h2) (wf_k h3 h4)
            have e : Km.sentS S G false = (1000 : Int) := by unfold Km.sentS; rw [Km.isC_true h1 h2 h3 h4, if_pos rfl]; unfold Km.sentV; simp; omega
            rw [e] at h
            exact h
          have r1 : 0 ≤ (1000 : Int) := by omega
          have r2 : (1000 : Int) ≤ 1000 := by omega
          have r3 : 0 ≤ G := by omega
          have r4 : G ≤ 1000 := by omega
          clear hv
          have q1 : min 1000 (S + 8) = 1000 := by omega
          clear hq
          go_wp2_with fail
          refine (HS.out _).mono ?_
          rintro e w2 ⟨rfl, hb2⟩
          replace L0 : Hid (LiesC _ _ _ _) := L0.out.on hb2
          replace hA : Hid (Below W.heap.size W _) := below_joinC hA.out hb2
          clear hb2 a0 a1 hce
          have a0 := L0.out.c0
          have a1 := L0.out.c1
          have a2 := L0.out.f0
          have a3 := L0.out.f1
          have L1 : Hid (LiesC ((w2.setCell ⟨w1.heap.size, 0, none⟩ (.int .i64 (1000 : Int))).setCell ⟨w1.heap.size, 1, none⟩ (.int .i64 G)) w1.heap.size (1000 : Int) G) := two_cellsC L0.out
          have hA1 : Hid (Below W.heap.size W ((w2.setCell ⟨w1.heap.size, 0, none⟩ (.int .i64 (1000 : Int))).setCell ⟨w1.heap.size, 1, none⟩ (.int .i64 G))) := (hA.out.setCell hw1 _).setCell hw1 _
          clear L0 hA HS
          have HI : Hid (∀ w, Calls Try.prog 8 #[.agg #[.int .i64 (1000 : Int), .int .i64 G]] w fun e w' => e = .returned (.bool true) ∧ Below w.heap.size w w') := fun w => by
            have h := kIs_any (1000 : Int) G w (wf_k r1 r2) (wf_k r3 r4)
            rw [Km.isC_true r1 r2 r3 r4] at h
            exact h
          have HR2 : Hid (0 ≤ (1000 : Int) ∧ (1000 : Int) ≤ 1000 ∧ 0 ≤ G ∧ G ≤ 1000) := ⟨r1, r2, r3, r4⟩
          clear HR
          have HO : Hid (∀ w, Calls Try.prog 13 #[.agg #[.int .i64 (1000 : Int), .int .i64 G]] w fun e w' => e = .returned (.bool true) ∧ Below w.heap.size w w') := fun w => by
            have h := kOff_any (1000 : Int) G w (wf_k r1 r2) (wf_k r3 r4)
            rw [show Km.offC (1000 : Int) = true from by unfold Km.offC; first | (simp; done) | (simp; omega)] at h
            exact h
          have HP : Hid (∀ w, Calls Try.prog 15 #[.agg #[.int .i64 (1000 : Int), .int .i64 G]] w fun e w' => e = .returned (.bool false) ∧ Below w.heap.size w w') := fun w => by
            have h := kPas_any (1000 : Int) G w (wf_k r1 r2) (wf_k r3 r4)
            rw [show Km.pasC (1000 : Int) G = false from by unfold Km.pasC Km.offC; first | (simp; done) | (simp; omega)] at h
            exact h
          have d1 : decide (256 ≤ (1000 : Int)) = true := decide_eq_true (by omega)
          have d2 : decide ((1000 : Int) < 256) = false := decide_eq_false (by omega)
          clear r1 r2 r3 r4
          try clear c1
          try clear c2
          try clear c3
          go_wp2_with fail
          refine (HO.out _).mono ?_
          rintro e w3 ⟨rfl, hb3⟩
          replace L1 : Hid (LiesC _ _ _ _) := L1.out.on hb3
          replace hA1 : Hid (Below W.heap.size W _) := below_joinC hA1.out hb3
          clear hb3 HO h1 h2 h3 h4 q1
          have z0 := L1.out.c0
          have z1 := L1.out.c1
          go_wp2_with fail
          refine (HP.out _).mono ?_
          rintro e w4 ⟨rfl, hb4⟩
          replace L1 : Hid (LiesC _ _ _ _) := L1.out.on hb4
          replace hA1 : Hid (Below W.heap.size W _) := below_joinC hA1.out hb4
          clear hb4 HP z0 z1
          have z0 := L1.out.c0
          have z1 := L1.out.c1
          go_wp2_with fail
          refine (HI.out _).mono ?_
          rintro e w5 ⟨rfl, hb5⟩
          replace L1 : Hid (LiesC _ _ _ _) := L1.out.on hb5
          replace hA1 : Hid (Below W.heap.size W _) := below_joinC hA1.out hb5
          clear hb5 HI z0 z1
          have z0 := L1.out.c0
          have z1 := L1.out.c1
          go_wp2
          go_roundw
          case rel => exact ⟨k + 1, (1000 : Int), G, by omega, by go_num, rfl, rfl, HR2, L1, hA1⟩
          case measure => simp [intOf]; omega
      · by_cases hg : 127 < G
        · have hvI : (V : Int) % 4 = 2 := by omega
          have dg : decide (127 < G) = true := decide_eq_true hg
          have HS : Hid (∀ w, Calls Try.prog 11 #[.agg #[.int .i64 S, .int .i64 G], .bool true] w fun e w' => e = .returned (.agg #[.int .i64 S, .int .i64 120]) ∧ Below w.heap.size w w') := fun w => by
            have h := kGot_any S G true w (wf_k h1 h2) (wf_k h3 h4)
            have e : Km.gotG S G true = 120 := by unfold Km.gotG Km.gotV; rw [Km.isC_true h1 h2 h3 h4, if_pos rfl, if_pos rfl, if_pos hg]
            rw [e] at h
            exact h
          have r1 : 0 ≤ S := by omega
          have r2 : S ≤ 1000 := by omega
          have r3 : 0 ≤ (120 : Int) := by omega
          have r4 : (120 : Int) ≤ 1000 := by omega
          clear hv
          go_wp2_with fail
          refine (HS.out _).mono ?_
          rintro e w2 ⟨rfl, hb2⟩
          replace L0 : Hid (LiesC _ _ _ _) := L0.out.on hb2
          replace hA : Hid (Below W.heap.size W _) := below_joinC hA.out hb2
          clear hb2 a0 a1 hce
          have a0 := L0.out.c0
          have a1 := L0.out.c1
          have a2 := L0.out.f0
          have a3 := L0.out.f1
          have L1 : Hid (LiesC ((w2.setCell ⟨w1.heap.size, 0, none⟩ (.int .i64 S)).setCell ⟨w1.heap.size, 1, none⟩ (.int .i64 (120 : Int))) w1.heap.size S (120 : Int)) := two_cellsC L0.out
          have hA1 : Hid (Below W.heap.size W ((w2.setCell ⟨w1.heap.size, 0, none⟩ (.int .i64 S)).setCell ⟨w1.heap.size, 1, none⟩ (.int .i64 (120 : Int)))) := (hA.out.setCell hw1 _).setCell hw1 _
          clear L0 hA HS
          have HI : Hid (∀ w, Calls Try.prog 8 #[.agg #[.int .i64 S, .int .i64 (120 : Int)]] w fun e w' => e = .returned (.bool true) ∧ Below w.heap.size w w') := fun w => by
            have h := kIs_any S (120 : Int) w (wf_k r1 r2) (wf_k r3 r4)
            rw [Km.isC_true r1 r2 r3 r4] at h
            exact h
          have HR2 : Hid (0 ≤ S ∧ S ≤ 1000 ∧ 0 ≤ (120 : Int) ∧ (120 : Int) ≤ 1000) := ⟨r1, r2, r3, r4⟩
          clear HR
          by_cases c1 : 256 ≤ S
          · skip
            have HO : Hid (∀ w, Calls Try.prog 13 #[.agg #[.int .i64 S, .int .i64 (120 : Int)]] w fun e w' => e = .returned (.bool true) ∧ Below w.heap.size w w') := fun w => by
              have h := kOff_any S (120 : Int) w (wf_k r1 r2) (wf_k r3 r4)
              rw [show Km.offC S = true from by unfold Km.offC; first | (simp; done) | (simp; omega)] at h
              exact h
            have HP : Hid (∀ w, Calls Try.prog 15 #[.agg #[.int .i64 S, .int .i64 (120 : Int)]] w fun e w' => e = .returned (.bool false) ∧ Below w.heap.size w w') := fun w => by
              have h := kPas_any S (120 : Int) w (wf_k r1 r2) (wf_k r3 r4)
              rw [show Km.pasC S (120 : Int) = false from by unfold Km.pasC Km.offC; first | (simp; done) | (simp; omega)] at h
              exact h
            have d1 : decide (256 ≤ S) = true := decide_eq_true (by omega)
            have d2 : decide (S < 256) = false := decide_eq_false (by omega)
            clear r1 r2 r3 r4
            try clear c1
            try clear c2
            try clear c3
            go_wp2_with fail
            refine (HO.out _).mono ?_
            rintro e w3 ⟨rfl, hb3⟩
            replace L1 : Hid (LiesC _ _ _ _) := L1.out.on hb3
            replace hA1 : Hid (Below W.heap.size W _) := below_joinC hA1.out hb3
            clear hb3 HO h1 h2 h3 h4
            have z0 := L1.out.c0
            have z1 := L1.out.c1
            go_wp2_with fail
            refine (HP.out _).mono ?_
            rintro e w4 ⟨rfl, hb4⟩
            replace L1 : Hid (LiesC _ _ _ _) := L1.out.on hb4
            replace hA1 : Hid (Below W.heap.size W _) := below_joinC hA1.out hb4
            clear hb4 HP z0 z1
            have z0 := L1.out.c0
            have z1 := L1.out.c1
            go_wp2_with fail
            refine (HI.out _).mono ?_
            rintro e w5 ⟨rfl, hb5⟩
            replace L1 : Hid (LiesC _ _ _ _) := L1.out.on hb5
            replace hA1 : Hid (Below W.heap.size W _) := below_joinC hA1.out hb5
            clear hb5 HI z0 z1
            have z0 := L1.out.c0
            have z1 := L1.out.c1
            go_wp2
            go_roundw
            case rel => exact ⟨k + 1, S, (120 : Int), by omega, by go_num, rfl, rfl, HR2, L1, hA1⟩
            case measure => simp [intOf]; omega
          · skip
            by_cases c2 : 128 ≤ S
            · skip
              have HO : Hid (∀ w, Calls Try.prog 13 #[.agg #[.int .i64 S, .int .i64 (120 : Int)]] w fun e w' => e = .returned (.bool false) ∧ Below w.heap.size w w') := fun w => by
                have h := kOff_any S (120 : Int) w (wf_k r1 r2) (wf_k r3 r4)
                rw [show Km.offC S = false from by unfold Km.offC; first | (simp; done) | (simp; omega)] at h
                exact h
              have HP : Hid (∀ w, Calls Try.prog 15 #[.agg #[.int .i64 S, .int .i64 (120 : Int)]] w fun e w' => e = .returned (.bool true) ∧ Below w.heap.size w w') := fun w => by
                have h := kPas_any S (120 : Int) w (wf_k r1 r2) (wf_k r3 r4)
                rw [show Km.pasC S (120 : Int) = true from by unfold Km.pasC Km.offC; first | (simp; done) | (simp; omega)] at h
                exact h
              have d1 : decide (256 ≤ S) = false := decide_eq_false (by omega)
              have d2 : decide (S < 256) = true := decide_eq_true (by omega)
              have d3 : decide (128 ≤ S) = true := decide_eq_true (by omega)
              clear r1 r2 r3 r4
              try clear c1
              try clear c2
              try clear c3
              go_wp2_with fail
              refine (HO.out _).mono ?_
              rintro e w3 ⟨rfl, hb3⟩
              replace L1 : Hid (LiesC _ _ _ _) := L1.out.on hb3
              replace hA1 : Hid (Below W.heap.size W _) := below_joinC hA1.out hb3
              clear hb3 HO h1 h2 h3 h4
              have z0 := L1.out.c0
              have z1 := L1.out.c1
              go_wp2_with fail
              refine (HP.out _).mono ?_
              rintro e w4 ⟨rfl, hb4⟩
              replace L1 : Hid (LiesC _ _ _ _) := L1.out.on hb4
              replace hA1 : Hid (Below W.heap.size W _) := below_joinC hA1.out hb4
              clear hb4 HP z0 z1
              have z0 := L1.out.c0
              have z1 := L1.out.c1
              go_wp2_with fail
              refine (HI.out _).mono ?_
              rintro e w5 ⟨rfl, hb5⟩
              replace L1 : Hid (LiesC _ _ _ _) := L1.out.on hb5
              replace hA1 : Hid (Below W.heap.size W _) := below_joinC hA1.out hb5
              clear hb5 HI z0 z1
              have z0 := L1.out.c0
              have z1 := L1.out.c1
              go_wp2
              go_roundw
              case rel => exact ⟨k + 1, S, (120 : Int), by omega, by go_num, rfl, rfl, HR2, L1, hA1⟩
              case measure => simp [intOf]; omega
            · skip
              have HO : Hid (∀ w, Calls Try.prog 13 #[.agg #[.int .i64 S, .int .i64 (120 : Int)]] w fun e w' => e = .returned (.bool false) ∧ Below w.heap.size w w') := fun w => by
                have h := kOff_any S (120 : Int) w (wf_k r1 r2) (wf_k r3 r4)
                rw [show Km.offC S = false from by unfold Km.offC; first | (simp; done) | (simp; omega)] at h
                exact h
              have HP : Hid (∀ w, Calls Try.prog 15 #[.agg #[.int .i64 S, .int .i64 (120 : Int)]] w fun e w' => e = .returned (.bool false) ∧ Below w.heap.size w w') := fun w => by
                have h := kPas_any S (120 : Int) w (wf_k r1 r2) (wf_k r3 r4)
                rw [show Km.pasC S (120 : Int) = false from by unfold Km.pasC Km.offC; first | (simp; done) | (simp; omega)] at h
                exact h
              have d1 : decide (256 ≤ S) = false := decide_eq_false (by omega)
              have d2 : decide (S < 256) = true := decide_eq_true (by omega)
              have d3 : decide (128 ≤ S) = false := decide_eq_false (by omega)
              have d4 : decide (128 ≤ (120 : Int)) = false := decide_eq_false (by omega)
              clear r1 r2 r3 r4
              try clear c1
              try clear c2
              try clear c3
              go_wp2_with fail
              refine (HO.out _).mono ?_
              rintro e w3 ⟨rfl, hb3⟩
              replace L1 : Hid (LiesC _ _ _ _) := L1.out.on hb3
              replace hA1 : Hid (Below W.heap.size W _) := below_joinC hA1.out hb3
              clear hb3 HO h1 h2 h3 h4
              have z0 := L1.out.c0
              have z1 := L1.out.c1
              go_wp2_with fail
              refine (HP.out _).mono ?_
              rintro e w4 ⟨rfl, hb4⟩
              replace L1 : Hid (LiesC _ _ _ _) := L1.out.on hb4
              replace hA1 : Hid (Below W.heap.size W _) := below_joinC hA1.out hb4
              clear hb4 HP z0 z1
              have z0 := L1.out.c0
              have z1 := L1.out.c1
              go_wp2_with fail
              refine (HI.out _).mono ?_
              rintro e w5 ⟨rfl, hb5⟩
              replace L1 : Hid (LiesC _ _ _ _) := L1.out.on hb5
              replace hA1 : Hid (Below W.heap.size W _) := below_joinC hA1.out hb5
              clear hb5 HI z0 z1
              have z0 := L1.out.c0
              have z1 := L1.out.c1
              go_wp2
              go_roundw
              case rel => exact ⟨k + 1, S, (120 : Int), by omega, by go_num, rfl, rfl, HR2, L1, hA1⟩
              case measure => simp [intOf]; omega
        · by_cases hq : 1 < G
          · have hvI : (V : Int) % 4 = 2 := by omega
            have HS : Hid (∀ w, Calls Try.prog 11 #[.agg #[.int .i64 S, .int .i64 G], .bool true] w fun e w' => e = .returned (.agg #[.int .i64 S, .int .i64 (G - 1)]) ∧ Below w.heap.size w w') := fun w => by
              have h := kGot_any S G true w (wf_k h1 h2) (wf_k h3 h4)
              have e : Km.gotG S G true = (G - 1) := by unfold Km.gotG; rw [Km.isC_true h1 h2 h3 h4, if_pos rfl]; unfold Km.gotV; simp; omega
              rw [e] at h
              exact h
            have r1 : 0 ≤ S := by omega
            have r2 : S ≤ 1000 := by omega
            have r3 : 0 ≤ (G - 1) := by omega
            have r4 : (G - 1) ≤ 1000 := by omega
            clear hv
            have q1 : max 0 (G - 1) = G - 1 := by omega
            clear hq
            go_wp2_with fail
            refine (HS.out _).mono ?_
            rintro e w2 ⟨rfl, hb2⟩
            replace L0 : Hid (LiesC _ _ _ _) := L0.out.on hb2
            replace hA : Hid (Below W.heap.size W _) := below_joinC hA.out hb2
            clear hb2 a0 a1 hce
            have a0 := L0.out.c0
            have a1 := L0.out.c1
            have a2 := L0.out.f0
            have a3 := L0.out.f1
            have L1 : Hid (LiesC ((w2.setCell ⟨w1.heap.size, 0, none⟩ (.int .i64 S)).setCell ⟨w1.heap.size, 1, none⟩ (.int .i64 (G - 1))) w1.heap.size S (G - 1)) := two_cellsC L0.out
            have hA1 : Hid (Below W.heap.size W ((w2.setCell ⟨w1.heap.size, 0, none⟩ (.int .i64 S)).setCell ⟨w1.heap.size, 1, none⟩ (.int .i64 (G - 1)))) := (hA.out.setCell hw1 _).setCell hw1 _
            clear L0 hA HS
            have HI : Hid (∀ w, Calls Try.prog 8 #[.agg #[.int .i64 S, .int .i64 (G - 1)]] w fun e w' => e = .returned (.bool true) ∧ Below w.heap.size w w') := fun w => by
              have h := kIs_any S (G - 1) w (wf_k r1 r2) (wf_k r3 r4)
              rw [Km.isC_true r1 r2 r3 r4] at h
              exact h
            have HR2 : Hid (0 ≤ S ∧ S ≤ 1000 ∧ 0 ≤ (G - 1) ∧ (G - 1) ≤ 1000) := ⟨r1, r2, r3, r4⟩
            clear HR
            by_cases c1 : 256 ≤ S
            · skip
              have HO : Hid (∀ w, Calls Try.prog 13 #[.agg #[.int .i64 S, .int .i64 (G - 1)]] w fun e w' => e = .returned (.bool true) ∧ Below w.heap.size w w') := fun w => by
                have h := kOff_any S (G - 1) w (wf_k r1 r2) (wf_k r3 r4)
                rw [show Km.offC S = true from by unfold Km.offC; first | (simp; done) | (simp; omega)] at h
                exact h
              have HP : Hid (∀ w, Calls Try.prog 15 #[.agg #[.int .i64 S, .int .i64 (G - 1)]] w fun e w' => e = .returned (.bool false) ∧ Below w.heap.size w w') := fun w => by
                have h := kPas_any S (G - 1) w (wf_k r1 r2) (wf_k r3 r4)
                rw [show Km.pasC S (G - 1) = false from by unfold Km.pasC Km.offC; first | (simp; done) | (simp; omega)] at h
                exact h
              have d1 : decide (256 ≤ S) = true := decide_eq_true (by omega)
              have d2 : decide (S < 256) = false := decide_eq_false (by omega)
              clear r1 r2 r3 r4
              try clear c1
              try clear c2
              try clear c3
              go_wp2_with fail
              refine (HO.out _).mono ?_
              rintro e w3 ⟨rfl, hb3⟩
              replace L1 : Hid (LiesC _ _ _ _) := L1.out.on hb3
              replace hA1 : Hid (Below W.heap.size W _) := below_joinC hA1.out hb3
              clear hb3 HO h1 h2 h3 h4 q1
              have z0 := L1.out.c0
              have z1 := L1.out.c1
              go_wp2_with fail
              refine (HP.out _).mono ?_
              rintro e w4 ⟨rfl, hb4⟩
              replace L1 : Hid (LiesC _ _ _ _) := L1.out.on hb4
              replace hA1 : Hid (Below W.heap.size W _) := below_joinC hA1.out hb4
              clear hb4 HP z0 z1
              have z0 := L1.out.c0
              have z1 := L1.out.c1
              go_wp2_with fail
              refine (HI.out _).mono ?_
              rintro e w5 ⟨rfl, hb5⟩
              replace L1 : Hid (LiesC _ _ _ _) := L1.out.on hb5
              replace hA1 : Hid (Below W.heap.size W _) := below_joinC hA1.out hb5
              clear hb5 HI z0 z1
              have z0 := L1.out.c0
              have z1 := L1.out.c1
              go_wp2
              go_roundw
              case rel => exact ⟨k + 1, S, (G - 1), by omega, by go_num, rfl, rfl, HR2, L1, hA1⟩
              case measure => simp [intOf]; omega
            · skip
              by_cases c2 : 128 ≤ S
              · skip
                have HO : Hid (∀ w, Calls Try.prog 13 #[.agg #[.int .i64 S, .int .i64 (G - 1)]] w fun e w' => e = .returned (.bool false) ∧ Below w.heap.size w w') := fun w => by
                  have h := kOff_any S (G - 1) w (wf_k r1 r2) (wf_k r3 r4)
                  rw [show Km.offC S = false from by unfold Km.offC; first | (simp; done) | (simp; omega)] at h
                  exact h
                have HP : Hid (∀ w, Calls Try.prog 15 #[.agg #[.int .i64 S, .int .i64 (G - 1)]] w fun e w' => e = .returned (.bool true) ∧ Below w.heap.size w w') := fun w => by
                  have h := kPas_any S (G - 1) w (wf_k r1 r2) (wf_k r3 r4)
                  rw [show Km.pasC S (G - 1) = true from by unfold Km.pasC Km.offC; first | (simp; done) | (simp; omega)] at h
                  exact h
                have d1 : decide (256 ≤ S) = false := decide_eq_false (by omega)
                have d2 : decide (S < 256) = true := decide_eq_true (by omega)
                have d3 : decide (128 ≤ S) = true := decide_eq_true (by omega)
                clear r1 r2 r3 r4
                try clear c1
                try clear c2
                try clear c3
                go_wp2_with fail
                refine (HO.out _).mono ?_
                rintro e w3 ⟨rfl, hb3⟩
                replace L1 : Hid (LiesC _ _ _ _) := L1.out.on hb3
                replace hA1 : Hid (Below W.heap.size W _) := below_joinC hA1.out hb3
                clear hb3 HO h1 h2 h3 h4 q1
                have z0 := L1.out.c0
                have z1 := L1.out.c1
                go_wp2_with fail
                refine (HP.out _).mono ?_
                rintro e w4 ⟨rfl, hb4⟩
                replace L1 : Hid (LiesC _ _ _ _) := L1.out.on hb4
                replace hA1 : Hid (Below W.heap.size W _) := below_joinC hA1.out hb4
                clear hb4 HP z0 z1
                have z0 := L1.out.c0
                have z1 := L1.out.c1
                go_wp2_with fail
                refine (HI.out _).mono ?_
                rintro e w5 ⟨rfl, hb5⟩
                replace L1 : Hid (LiesC _ _ _ _) := L1.out.on hb5
                replace hA1 : Hid (Below W.heap.size W _) := below_joinC hA1.out hb5
                clear hb5 HI z0 z1
                have z0 := L1.out.c0
                have z1 := L1.out.c1
                go_wp2
                go_roundw
                case rel => exact ⟨k + 1, S, (G - 1), by omega, by go_num, rfl, rfl, HR2, L1, hA1⟩
                case measure => simp [intOf]; omega
              · skip
                by_cases c3 : 128 ≤ (G - 1)
                · skip
                  have HO : Hid (∀ w, Calls Try.prog 13 #[.agg #[.int .i64 S, .int .i64 (G - 1)]] w fun e w' => e = .returned (.bool false) ∧ Below w.heap.size w w') := fun w => by
                    have h := kOff_any S (G - 1) w (wf_k r1 r2) (wf_k r3 r4)
                    rw [show Km.offC S = false from by unfold Km.offC; first | (simp; done) | (simp; omega)] at h
                    exact h
                  have HP : Hid (∀ w, Calls Try.prog 15 #[.agg #[.int .i64 S, .int .i64 (G - 1)]] w fun e w' => e = .returned (.bool true) ∧ Below w.heap.size w w') := fun w => by
                    have h := kPas_any S (G - 1) w (wf_k r1 r2) (wf_k r3 r4)
                    rw [show Km.pasC S (G - 1) = true from by unfold Km.pasC Km.offC; first | (simp; done) | (simp; omega)] at h
                    exact h
                  have d1 : decide (256 ≤ S) = false := decide_eq_false (by omega)
                  have d2 : decide (S < 256) = true := decide_eq_true (by omega)
                  have d3 : decide (128 ≤ S) = false := decide_eq_false (by omega)
                  have d4 : decide (128 ≤ (G - 1)) = true := decide_eq_true (by omega)
                  clear r1 r2 r3 r4
                  try clear c1
                  try clear c2
                  try clear c3
                  go_wp2_with fail
                  refine (HO.out _).mono ?_
                  rintro e w3 ⟨rfl, hb3⟩
                  replace L1 : Hid (LiesC _ _ _ _) := L1.out.on hb3
                  replace hA1 : Hid (Below W.heap.size W _) := below_joinC hA1.out hb3
                  clear hb3 HO h1 h2 h3 h4 q1
                  have z0 := L1.out.c0
                  have z1 := L1.out.c1
                  go_wp2_with fail
                  refine (HP.out _).mono ?_
                  rintro e w4 ⟨rfl, hb4⟩
                  replace L1 : Hid (LiesC _ _ _ _) := L1.out.on hb4
                  replace hA1 : Hid (Below W.heap.size W _) := below_joinC hA1.out hb4
                  clear hb4 HP z0 z1
                  have z0 := L1.out.c0
                  have z1 := L1.out.c1
                  go_wp2_with fail
                  refine (HI.out _).mono ?_
                  rintro e w5 ⟨rfl, hb5⟩
                  replace L1 : Hid (LiesC _ _ _ _) := L1.out.on hb5
                  replace hA1 : Hid (Below W.heap.size W _) := below_joinC hA1.out hb5
                  clear hb5 HI z0 z1
                  have z0 := L1.out.c0
                  have z1 := L1.out.c1
                  go_wp2
                  go_roundw
                  case rel => exact ⟨k + 1, S, (G - 1), by omega, by go_num, rfl, rfl, HR2, L1, hA1⟩
                  case measure => simp [intOf]; omega
                · skip
                  have HO : Hid (∀ w, Calls Try.prog 13 #[.agg #[.int .i64 S, .int .i64 (G - 1)]] w fun e w' => e = .returned (.bool false) ∧ Below w.heap.size w w') := fun w => by
                    have h := kOff_any S (G - 1) w (wf_k r1 r2) (wf_k r3 r4)
                    rw [show Km.offC S = false from by unfold Km.offC; first | (simp; done) | (simp; omega)] at h
                    exact h
                  have HP : Hid (∀ w, Calls Try.prog 15 #[.agg #[.int .i64 S, .int .i64 (G - 1)]] w fun e w' => e = .returned (.bool false) ∧ Below w.heap.size w w') := fun w => by
                    have h := kPas_any S (G - 1) w (wf_k r1 r2) (wf_k r3 r4)
                    rw [show Km.pasC S (G - 1) = false from by unfold Km.pasC Km.offC; first | (simp; done) | (simp; omega)] at h
                    exact h
                  have d1 : decide (256 ≤ S) = false := decide_eq_false (by omega)
                  have d2 : decide (S < 256) = true := decide_eq_true (by omega)
                  have d3 : decide (128 ≤ S) = false := decide_eq_false (by omega)
                  have d4 : decide (128 ≤ (G - 1)) = false := decide_eq_false (by omega)
                  clear r1 r2 r3 r4
                  try clear c1
                  try clear c2
                  try clear c3
                  go_wp2_with fail
                  refine (HO.out _).mono ?_
                  rintro e w3 ⟨rfl, hb3⟩
                  replace L1 : Hid (LiesC _ _ _ _) := L1.out.on hb3
                  replace hA1 : Hid (Below W.heap.size W _) := below_joinC hA1.out hb3
                  clear hb3 HO h1 h2 h3 h4 q1
                  have z0 := L1.out.c0
                  have z1 := L1.out.c1
                  go_wp2_with fail
                  refine (HP.out _).mono ?_
                  rintro e w4 ⟨rfl, hb4⟩
                  replace L1 : Hid (LiesC _ _ _ _) := L1.out.on hb4
                  replace hA1 : Hid (Below W.heap.size W _) := below_joinC hA1.out hb4
                  clear hb4 HP z0 z1
                  have z0 := L1.out.c0
                  have z1 := L1.out.c1
                  go_wp2_with fail
                  refine (HI.out _).mono ?_
                  rintro e w5 ⟨rfl, hb5⟩
                  replace L1 : Hid (LiesC _ _ _ _) := L1.out.on hb5
                  replace hA1 : Hid (Below W.heap.size W _) := below_joinC hA1.out hb5
                  clear hb5 HI z0 z1
                  have z0 := L1.out.c0
                  have z1 := L1.out.c1
                  go_wp2
                  go_roundw
                  case rel => exact ⟨k + 1, S, (G - 1), by omega, by go_num, rfl, rfl, HR2, L1, hA1⟩
                  case measure => simp [intOf]; omega
          · have hvI : (V : Int) % 4 = 2 := by omega
            have HS : Hid (∀ w, Calls Try.prog 11 #[.agg #[.int .i64 S, .int .i64 G], .bool true] w fun e w' => e = .returned (.agg #[.int .i64 S, .int .i64 (0 : Int)]) ∧ Below w.heap.size w w') := fun w => by
              have h := kGot_any S G true w (wf_k h1 h2) (wf_k h3 h4)
              have e : Km.gotG S G true = (0 : Int) := by unfold Km.gotG; rw [Km.isC_true h1 h2 h3 h4, if_pos rfl]; unfold Km.gotV; simp; omega
              rw [e] at h
              exact h
            have r1 : 0 ≤ S := by omega
            have r2 : S ≤ 1000 := by omega
            have r3 : 0 ≤ (0 : Int) := by omega
            have r4 : (0 : Int) ≤ 1000 := by omega
            clear hv
            have q1 : max 0 (G - 1) = 0 := by omega
            clear hq
            go_wp2_with fail
            refine (HS.out _).mono ?_
            rintro e w2 ⟨rfl, hb2⟩
            replace L0 : Hid (LiesC _ _ _ _) := L0.out.on hb2
            replace hA : Hid (Below W.heap.size W _) := below_joinC hA.out hb2
            clear hb2 a0 a1 hce
            have a0 := L0.out.c0
            have a1 := L0.out.c1
            have a2 := L0.out.f0
            have a3 := L0.out.f1
            have L1 : Hid (LiesC ((w2.setCell ⟨w1.heap.size, 0, none⟩ (.int .i64 S)).setCell ⟨w1.heap.size, 1, none⟩ (.int .i64 (0 : Int))) w1.heap.size S (0 : Int)) := two_cellsC L0.out
            have hA1 : Hid (Below W.heap.size W ((w2.setCell ⟨w1.heap.size, 0, none⟩ (.int .i64 S)).setCell ⟨w1.heap.size, 1, none⟩ (.int .i64 (0 : Int)))) := (hA.out.setCell hw1 _).setCell hw1 _
            clear L0 hA HS
            have HI : Hid (∀ w, Calls Try.prog 8 #[.agg #[.int .i64 S, .int .i64 (0 : Int)]] w fun e w' => e = .returned (.bool true) ∧ Below w.heap.size w w') := fun w => by
              have h := kIs_any S (0 : Int) w (wf_k r1 r2) (wf_k r3 r4)
              rw [Km.isC_true r1 r2 r3 r4] at h
              exact h
            have HR2 : Hid (0 ≤ S ∧ S ≤ 1000 ∧ 0 ≤ (0 : Int) ∧ (0 : Int) ≤ 1000) := ⟨r1, r2, r3, r4⟩
            clear HR
            by_cases c1 : 256 ≤ S
            · skip
              have HO : Hid (∀ w, Calls Try.prog 13 #[.agg #[.int .i64 S, .int .i64 (0 : Int)]] w fun e w' => e = .returned (.bool true) ∧ Below w.heap.size w w') := fun w => by
                have h := kOff_any S (0 : Int) w (wf_k r1 r2) (wf_k r3 r4)
                rw [show Km.offC S = true from by unfold Km.offC; first | (simp; done) | (simp; omega)] at h
                exact h
              have HP : Hid (∀ w, Calls Try.prog 15 #[.agg #[.int .i64 S, .int .i64 (0 : Int)]] w fun e w' => e = .returned (.bool false) ∧ Below w.heap.size w w') := fun w => by
                have h := kPas_any S (0 : Int) w (wf_k r1 r2) (wf_k r3 r4)
                rw [show Km.pasC S (0 : Int) = false from by unfold Km.pasC Km.offC; first | (simp; done) | (simp; omega)] at h
                exact h
              have d1 : decide (256 ≤ S) = true := decide_eq_true (by omega)
              have d2 : decide (S < 256) = false := decide_eq_false (by omega)
              clear r1 r2 r3 r4
              try clear c1
              try clear c2
              try clear c3
              go_wp2_with fail
              refine (HO.out _).mono ?_
              rintro e w3 ⟨rfl, hb3⟩
              replace L1 : Hid (LiesC _ _ _ _) := L1.out.on hb3
              replace hA1 : Hid (Below W.heap.size W _) := below_joinC hA1.out hb3
              clear hb3 HO h1 h2 h3 h4 q1
              have z0 := L1.out.c0
              have z1 := L1.out.c1
              go_wp2_with fail
              refine (HP.out _).mono ?_
              rintro e w4 ⟨rfl, hb4⟩
              replace L1 : Hid (LiesC _ _ _ _) := L1.out.on hb4
              replace hA1 : Hid (Below W.heap.size W _) := below_joinC hA1.out hb4
              clear hb4 HP z0 z1
              have z0 := L1.out.c0
              have z1 := L1.out.c1
              go_wp2_with fail
              refine (HI.out _).mono ?_
              rintro e w5 ⟨rfl, hb5⟩
              replace L1 : Hid (LiesC _ _ _ _) := L1.out.on hb5
              replace hA1 : Hid (Below W.heap.size W _) := below_joinC hA1.out hb5
              clear hb5 HI z0 z1
              have z0 := L1.out.c0
              have z1 := L1.out.c1
              go_wp2
              go_roundw
              case rel => exact ⟨k + 1, S, (0 : Int), by omega, by go_num, rfl, rfl, HR2, L1, hA1⟩
              case measure => simp [intOf]; omega
            · skip
              by_cases c2 : 128 ≤ S
              · skip
                have HO : Hid (∀ w, Calls Try.prog 13 #[.agg #[.int .i64 S, .int .i64 (0 : Int)]] w fun e w' => e = .returned (.bool false) ∧ Below w.heap.size w w') := fun w => by
                  have h := kOff_any S (0 : Int) w (wf_k r1 r2) (wf_k r3 r4)
                  rw [show Km.offC S = false from by unfold Km.offC; first | (simp; done) | (simp; omega)] at h
                  exact h
                have HP : Hid (∀ w, Calls Try.prog 15 #[.agg #[.int .i64 S, .int .i64 (0 : Int)]] w fun e w' => e = .returned (.bool true) ∧ Below w.heap.size w w') := fun w => by
                  have h := kPas_any S (0 : Int) w (wf_k r1 r2) (wf_k r3 r4)
                  rw [show Km.pasC S (0 : Int) = true from by unfold Km.pasC Km.offC; first | (simp; done) | (simp; omega)] at h
                  exact h
                have d1 : decide (256 ≤ S) = false := decide_eq_false (by omega)
                have d2 : decide (S < 256) = true := decide_eq_true (by omega)
                have d3 : decide (128 ≤ S) = true := decide_eq_true (by omega)
                clear r1 r2 r3 r4
                try clear c1
                try clear c2
                try clear c3
                go_wp2_with fail
                refine (HO.out _).mono ?_
                rintro e w3 ⟨rfl, hb3⟩
                replace L1 : Hid (LiesC _ _ _ _) := L1.out.on hb3
                replace hA1 : Hid (Below W.heap.size W _) := below_joinC hA1.out hb3
                clear hb3 HO h1 h2 h3 h4 q1
                have z0 := L1.out.c0
                have z1 := L1.out.c1
                go_wp2_with fail
                refine (HP.out _).mono ?_
                rintro e w4 ⟨rfl, hb4⟩
                replace L1 : Hid (LiesC _ _ _ _) := L1.out.on hb4
                replace hA1 : Hid (Below W.heap.size W _) := below_joinC hA1.out hb4
                clear hb4 HP z0 z1
                have z0 := L1.out.c0
                have z1 := L1.out.c1
                go_wp2_with fail
                refine (HI.out _).mono ?_
                rintro e w5 ⟨rfl, hb5⟩
                replace L1 : Hid (LiesC _ _ _ _) := L1.out.on hb5
                replace hA1 : Hid (Below W.heap.size W _) := below_joinC hA1.out hb5
                clear hb5 HI z0 z1
                have z0 := L1.out.c0
                have z1 := L1.out.c1
                go_wp2
                go_roundw
                case rel => exact ⟨k + 1, S, (0 : Int), by omega, by go_num, rfl, rfl, HR2, L1, hA1⟩
                case measure => simp [intOf]; omega
              · skip
                have HO : Hid (∀ w, Calls Try.prog 13 #[.agg #[.int .i64 S, .int .i64 (0 : Int)]] w fun e w' => e = .returned (.bool false) ∧ Below w.heap.size w w') := fun w => by
                  have h := kOff_any S (0 : Int) w (wf_k r1 r2) (wf_k r3 r4)
                  rw [show Km.offC S = false from by unfold Km.offC; first | (simp; done) | (simp; omega)] at h
                  exact h
                have HP : Hid (∀ w, Calls Try.prog 15 #[.agg #[.int .i64 S, .int .i64 (0 : Int)]] w fun e w' => e = .returned (.bool false) ∧ Below w.heap.size w w') := fun w => by
                  have h := kPas_any S (0 : Int) w (wf_k r1 r2) (wf_k r3 r4)
                  rw [show Km.pasC S (0 : Int) = false from by unfold Km.pasC Km.offC; first | (simp; done) | (simp; omega)] at h
                  exact h
                have d1 : decide (256 ≤ S) = false := decide_eq_false (by omega)
                have d2 : decide (S < 256) = true := decide_eq_true (by omega)
                have d3 : decide (128 ≤ S) = false := decide_eq_false (by omega)
                have d4 : decide (128 ≤ (0 : Int)) = false := decide_eq_false (by omega)
                clear r1 r2 r3 r4
                try clear c1
                try clear c2
                try clear c3
                go_wp2_with fail
                refine (HO.out _).mono ?_
                rintro e w3 ⟨rfl, hb3⟩
                replace L1 : Hid (LiesC _ _ _ _) := L1.out.on hb3
                replace hA1 : Hid (Below W.heap.size W _) := below_joinC hA1.out hb3
                clear hb3 HO h1 h2 h3 h4 q1
                have z0 := L1.out.c0
                have z1 := L1.out.c1
                go_wp2_with fail
                refine (HP.out _).mono ?_
                rintro e w4 ⟨rfl, hb4⟩
                replace L1 : Hid (LiesC _ _ _ _) := L1.out.on hb4
                replace hA1 : Hid (Below W.heap.size W _) := below_joinC hA1.out hb4
                clear hb4 HP z0 z1
                have z0 := L1.out.c0
                have z1 := L1.out.c1
                go_wp2_with fail
                refine (HI.out _).mono ?_
                rintro e w5 ⟨rfl, hb5⟩
                replace L1 : Hid (LiesC _ _ _ _) := L1.out.on hb5
                replace hA1 : Hid (Below W.heap.size W _) := below_joinC hA1.out hb5
                clear hb5 HI z0 z1
                have z0 := L1.out.c0
                have z1 := L1.out.c1
                go_wp2
                go_roundw
                case rel => exact ⟨k + 1, S, (0 : Int), by omega, by go_num, rfl, rfl, HR2, L1, hA1⟩
                case measure => simp [intOf]; omega
      · by_cases hq : G + 1 < 1000
        · have hvI : (V : Int) % 4 = 3 := by omega
          have HS : Hid (∀ w, Calls Try.prog 11 #[.agg #[.int .i64 S, .int .i64 G], .bool false] w fun e w' => e = .returned (.agg #[.int .i64 S, .int .i64 (G + 1)]) ∧ Below w.heap.size w w') := fun w => by
            have h := kGot_any S G false w (wf_k h1 h2) (wf_k h3 h4)
            have e : Km.gotG S G false = (G + 1) := by unfold Km.gotG; rw [Km.isC_true h1 h2 h3 h4, if_pos rfl]; unfold Km.gotV; simp; omega
            rw [e] at h
            exact h
          have r1 : 0 ≤ S := by omega
          have r2 : S ≤ 1000 := by omega
          have r3 : 0 ≤ (G + 1) := by omega
          have r4 : (G + 1) ≤ 1000 := by omega
          clear hv
          have q1 : min 1000 (G + 1) = G + 1 := by omega
          clear hq
          go_wp2_with fail
          refine (HS.out _).mono ?_
          rintro e w2 ⟨rfl, hb2⟩
          replace L0 : Hid (LiesC _ _ _ _) := L0.out.on hb2
          replace hA : Hid (Below W.heap.size W _) := below_joinC hA.out hb2
          clear hb2 a0 a1 hce
          have a0 := L0.out.c0
          have a1 := L0.out.c1
          have a2 := L0.out.f0
          have a3 := L0.out.f1
          have L1 : Hid (LiesC ((w2.setCell ⟨w1.heap.size, 0, none⟩ (.int .i64 S)).setCell ⟨w1.heap.size, 1, none⟩ (.int .i64 (G + 1))) w1.heap.size S (G + 1)) := two_cellsC L0.out
          have hA1 : Hid (Below W.heap.size W ((w2.setCell ⟨w1.heap.size, 0, none⟩ (.int .i64 S)).setCell ⟨w1.heap.size, 1, none⟩ (.int .i64 (G + 1)))) := (hA.out.setCell hw1 _).setCell hw1 _
          clear L0 hA HS
          have HI : Hid (∀ w, Calls Try.prog 8 #[.agg #[.int .i64 S, .int .i64 (G + 1)]] w fun e w' => e = .returned (.bool true) ∧ Below w.heap.size w w') := fun w => by
            have h := kIs_any S (G + 1) w (wf_k r1 r2) (wf_k r3 r4)
            rw [Km.isC_true r1 r2 r3 r4] at h
            exact h
          have HR2 : Hid (0 ≤ S ∧ S ≤ 1000 ∧ 0 ≤ (G + 1) ∧ (G + 1) ≤ 1000) := ⟨r1, r2, r3, r4⟩
          clear HR
          by_cases c1 : 256 ≤ S
          · skip
            have HO : Hid (∀ w, Calls Try.prog 13 #[.agg #[.int .i64 S, .int .i64 (G + 1)]] w fun e w' => e = .returned (.bool true) ∧ Below w.heap.size w w') := fun w => by
              have h := kOff_any S (G + 1) w (wf_k r1 r2) (wf_k r3 r4)
              rw [show Km.offC S = true from by unfold Km.offC; first | (simp; done) | (simp; omega)] at h
              exact h
            have HP : Hid (∀ w, Calls Try.prog 15 #[.agg #[.int .i64 S, .int .i64 (G + 1)]] w fun e w' => e = .returned (.bool false) ∧ Below w.heap.size w w') := fun w => by
              have h := kPas_any S (G + 1) w (wf_k r1 r2) (wf_k r3 r4)
              rw [show Km.pasC S (G + 1) = false from by unfold Km.pasC Km.offC; first | (simp; done) | (simp; omega)] at h
              exact h
            have d1 : decide (256 ≤ S) = true := decide_eq_true (by omega)
            have d2 : decide (S < 256) = false := decide_eq_false (by omega)
            clear r1 r2 r3 r4
            try clear c1
            try clear c2
            try clear c3
            go_wp2_with fail
            refine (HO.out _).mono ?_
            rintro e w3 ⟨rfl, hb3⟩
            replace L1 : Hid (LiesC _ _ _ _) := L1.out.on hb3
            replace hA1 : Hid (Below W.heap.size W _) := below_joinC hA1.out hb3
            clear hb3 HO h1 h2 h3 h4 q1
            have z0 := L1.out.c0
            have z1 := L1.out.c1
            go_wp2_with fail
            refine (HP.out _).mono ?_
            rintro e w4 ⟨rfl, hb4⟩
            replace L1 : Hid (LiesC _ _ _ _) := L1.out.on hb4
            replace hA1 : Hid (Below W.heap.size W _) := below_joinC hA1.out hb4
            clear hb4 HP z0 z1
            have z0 := L1.out.c0
            have z1 := L1.out.c1
            go_wp2_with fail
            refine (HI.out _).mono ?_
            rintro e w5 ⟨rfl, hb5⟩
            replace L1 : Hid (LiesC _ _ _ _) := L1.out.on hb5
            replace hA1 : Hid (Below W.heap.size W _) := below_joinC hA1.out hb5
            clear hb5 HI z0 z1
            have z0 := L1.out.c0
            have z1 := L1.out.c1
            go_wp2
            go_roundw
            case rel => exact ⟨k + 1, S, (G + 1), by omega, by go_num, rfl, rfl, HR2, L1, hA1⟩
            case measure => simp [intOf]; omega
          · skip
            by_cases c2 : 128 ≤ S
            · skip
              have HO : Hid (∀ w, Calls Try.prog 13 #[.agg #[.int .i64 S, .int .i64 (G + 1)]] w fun e w' => e = .returned (.bool false) ∧ Below w.heap.size w w') := fun w => by
                have h := kOff_any S (G + 1) w (wf_k r1 r2) (wf_k r3 r4)
                rw [show Km.offC S = false from by unfold Km.offC; first | (simp; done) | (simp; omega)] at h
                exact h
              have HP : Hid (∀ w, Calls Try.prog 15 #[.agg #[.int .i64 S, .int .i64 (G + 1)]] w fun e w' => e = .returned (.bool true) ∧ Below w.heap.size w w') := fun w => by
                have h := kPas_any S (G + 1) w (wf_k r1 r2) (wf_k r3 r4)
                rw [show Km.pasC S (G + 1) = true from by unfold Km.pasC Km.offC; first | (simp; done) | (simp; omega)] at h
                exact h
              have d1 : decide (256 ≤ S) = false := decide_eq_false (by omega)
              have d2 : decide (S < 256) = true := decide_eq_true (by omega)
              have d3 : decide (128 ≤ S) = true := decide_eq_true (by omega)
              clear r1 r2 r3 r4
              try clear c1
              try clear c2
              try clear c3
              go_wp2_with fail
              refine (HO.out _).mono ?_
              rintro e w3 ⟨rfl, hb3⟩
              replace L1 : Hid (LiesC _ _ _ _) := L1.out.on hb3
              replace hA1 : Hid (Below W.heap.size W _) := below_joinC hA1.out hb3
              clear hb3 HO h1 h2 h3 h4 q1
              have z0 := L1.out.c0
              have z1 := L1.out.c1
              go_wp2_with fail
              refine (HP.out _).mono ?_
              rintro e w4 ⟨rfl, hb4⟩
              replace L1 : Hid (LiesC _ _ _ _) := L1.out.on hb4
              replace hA1 : Hid (Below W.heap.size W _) := below_joinC hA1.out hb4
              clear hb4 HP z0 z1
              have z0 := L1.out.c0
              have z1 := L1.out.c1
              go_wp2_with fail
              refine (HI.out _).mono ?_
              rintro e w5 ⟨rfl, hb5⟩
              replace L1 : Hid (LiesC _ _ _ _) := L1.out.on hb5
              replace hA1 : Hid (Below W.heap.size W _) := below_joinC hA1.out hb5
              clear hb5 HI z0 z1
              have z0 := L1.out.c0
              have z1 := L1.out.c1
              go_wp2
              go_roundw
              case rel => exact ⟨k + 1, S, (G + 1), by omega, by go_num, rfl, rfl, HR2, L1, hA1⟩
              case measure => simp [intOf]; omega
            · skip
              by_cases c3 : 128 ≤ (G + 1)
              · skip
                have HO : Hid (∀ w, Calls Try.prog 13 #[.agg #[.int .i64 S, .int .i64 (G + 1)]] w fun e w' => e = .returned (.bool false) ∧ Below w.heap.size w w') := fun w => by
                  have h := kOff_any S (G + 1) w (wf_k r1 r2) (wf_k r3 r4)
                  rw [show Km.offC S = false from by unfold Km.offC; first | (simp; done) | (simp; omega)] at h
                  exact h
                have HP : Hid (∀ w, Calls Try.prog 15 #[.agg #[.int .i64 S, .int .i64 (G + 1)]] w fun e w' => e = .returned (.bool true) ∧ Below w.heap.size w w') := fun w => by
                  have h := kPas_any S (G + 1) w (wf_k r1 r2) (wf_k r3 r4)
                  rw [show Km.pasC S (G + 1) = true from by unfold Km.pasC Km.offC; first | (simp; done) | (simp; omega)] at h
                  exact h
                have d1 : decide (256 ≤ S) = false := decide_eq_false (by omega)
                have d2 : decide (S < 256) = true := decide_eq_true (by omega)
                have d3 : decide (128 ≤ S) = false := decide_eq_false (by omega)
                have d4 : decide (128 ≤ (G + 1)) = true := decide_eq_true (by omega)
                clear r1 r2 r3 r4
                try clear c1
                try clear c2
                try clear c3
                go_wp2_with fail
                refine (HO.out _).mono ?_
                rintro e w3 ⟨rfl, hb3⟩
                replace L1 : Hid (LiesC _ _ _ _) := L1.out.on hb3
                replace hA1 : Hid (Below W.heap.size W _) := below_joinC hA1.out hb3
                clear hb3 HO h1 h2 h3 h4 q1
                have z0 := L1.out.c0
                have z1 := L1.out.c1
                go_wp2_with fail
                refine (HP.out _).mono ?_
                rintro e w4 ⟨rfl, hb4⟩
                replace L1 : Hid (LiesC _ _ _ _) := L1.out.on hb4
                replace hA1 : Hid (Below W.heap.size W _) := below_joinC hA1.out hb4
                clear hb4 HP z0 z1
                have z0 := L1.out.c0
                have z1 := L1.out.c1
                go_wp2_with fail
                refine (HI.out _).mono ?_
                rintro e w5 ⟨rfl, hb5⟩
                replace L1 : Hid (LiesC _ _ _ _) := L1.out.on hb5
                replace hA1 : Hid (Below W.heap.size W _) := below_joinC hA1.out hb5
                clear hb5 HI z0 z1
                have z0 := L1.out.c0
                have z1 := L1.out.c1
                go_wp2
                go_roundw
                case rel => exact ⟨k + 1, S, (G + 1), by omega, by go_num, rfl, rfl, HR2, L1, hA1⟩
                case measure => simp [intOf]; omega
              · skip
                have HO : Hid (∀ w, Calls Try.prog 13 #[.agg #[.int .i64 S, .int .i64 (G + 1)]] w fun e w' => e = .returned (.bool false) ∧ Below w.heap.size w w') := fun w => by
                  have h := kOff_any S (G + 1) w (wf_k r1 r2) (wf_k r3 r4)
                  rw [show Km.offC S = false from by unfold Km.offC; first | (simp; done) | (simp; omega)] at h
                  exact h
                have HP : Hid (∀ w, Calls Try.prog 15 #[.agg #[.int .i64 S, .int .i64 (G + 1)]] w fun e w' => e = .returned (.bool false) ∧ Below w.heap.size w w') := fun w => by
                  have h := kPas_any S (G + 1) w (wf_k r1 r2) (wf_k r3 r4)
                  rw [show Km.pasC S (G + 1) = false from by unfold Km.pasC Km.offC; first | (simp; done) | (simp; omega)] at h
                  exact h
                have d1 : decide (256 ≤ S) = false := decide_eq_false (by omega)
                have d2 : decide (S < 256) = true := decide_eq_true (by omega)
                have d3 : decide (128 ≤ S) = false := decide_eq_false (by omega)
                have d4 : decide (128 ≤ (G + 1)) = false := decide_eq_false (by omega)
                clear r1 r2 r3 r4
                try clear c1
                try clear c2
                try clear c3
                go_wp2_with fail
                refine (HO.out _).mono ?_
                rintro e w3 ⟨rfl, hb3⟩
                replace L1 : Hid (LiesC _ _ _ _) := L1.out.on hb3
                replace hA1 : Hid (Below W.heap.size W _) := below_joinC hA1.out hb3
                clear hb3 HO h1 h2 h3 h4 q1
                have z0 := L1.out.c0
                have z1 := L1.out.c1
                go_wp2_with fail
                refine (HP.out _).mono ?_
                rintro e w4 ⟨rfl, hb4⟩
                replace L1 : Hid (LiesC _ _ _ _) := L1.out.on hb4
                replace hA1 : Hid (Below W.heap.size W _) := below_joinC hA1.out hb4
                clear hb4 HP z0 z1
                have z0 := L1.out.c0
                have z1 := L1.out.c1
                go_wp2_with fail
                refine (HI.out _).mono ?_
                rintro e w5 ⟨rfl, hb5⟩
                replace L1 : Hid (LiesC _ _ _ _) := L1.out.on hb5
                replace hA1 : Hid (Below W.heap.size W _) := below_joinC hA1.out hb5
                clear hb5 HI z0 z1
                have z0 := L1.out.c0
                have z1 := L1.out.c1
                go_wp2
                go_roundw
                case rel => exact ⟨k + 1, S, (G + 1), by omega, by go_num, rfl, rfl, HR2, L1, hA1⟩
                case measure => simp [intOf]; omega
        · have hvI : (V : Int) % 4 = 3 := by omega
          have HS : Hid (∀ w, Calls Try.prog 11 #[.agg #[.int .i64 S, .int .i64 G], .bool false] w fun e w' => e = .returned (.agg #[.int .i64 S, .int .i64 (1000 : Int)]) ∧ Below w.heap.size w w') := fun w => by
            have h := kGot_any S G false w (wf_k h1 h2) (wf_k h3 h4)
            have e : Km.gotG S G false = (1000 : Int) := by unfold Km.gotG; rw [Km.isC_true h1 h2 h3 h4, if_pos rfl]; unfold Km.gotV; simp; omega
            rw [e] at h
            exact h
          have r1 : 0 ≤ S := by omega
          have r2 : S ≤ 1000 := by omega
          have r3 : 0 ≤ (1000 : Int) := by omega
          have r4 : (1000 : Int) ≤ 1000 := by omega
          clear hv
          have q1 : min 1000 (G + 1) = 1000 := by omega
          clear hq
          go_wp2_with fail
          refine (HS.out _).mono ?_
          rintro e w2 ⟨rfl, hb2⟩
          replace L0 : Hid (LiesC _ _ _ _) := L0.out.on hb2
          replace hA : Hid (Below W.heap.size W _) := below_joinC hA.out hb2
          clear hb2 a0 a1 hce
          have a0 := L0.out.c0
          have a1 := L0.out.c1
          have a2 := L0.out.f0
          have a3 := L0.out.f1
          have L1 : Hid (LiesC ((w2.setCell ⟨w1.heap.size, 0, none⟩ (.int .i64 S)).setCell ⟨w1.heap.size, 1, none⟩ (.int .i64 (1000 : Int))) w1.heap.size S (1000 : Int)) := two_cellsC L0.out
          have hA1 : Hid (Below W.heap.size W ((w2.setCell ⟨w1.heap.size, 0, none⟩ (.int .i64 S)).setCell ⟨w1.heap.size, 1, none⟩ (.int .i64 (1000 : Int)))) := (hA.out.setCell hw1 _).setCell hw1 _
          clear L0 hA HS
          have HI : Hid (∀ w, Calls Try.prog 8 #[.agg #[.int .i64 S, .int .i64 (1000 : Int)]] w fun e w' => e = .returned (.bool true) ∧ Below w.heap.size w w') := fun w => by
            have h := kIs_any S (1000 : Int) w (wf_k r1 r2) (wf_k r3 r4)
            rw [Km.isC_true r1 r2 r3 r4] at h
            exact h
          have HR2 : Hid (0 ≤ S ∧ S ≤ 1000 ∧ 0 ≤ (1000 : Int) ∧ (1000 : Int) ≤ 1000) := ⟨r1, r2, r3, r4⟩
          clear HR
          by_cases c1 : 256 ≤ S
          · skip
            have HO : Hid (∀ w, Calls Try.prog 13 #[.agg #[.int .i64 S, .int .i64 (1000 : Int)]] w fun e w' => e = .returned (.bool true) ∧ Below w.heap.size w w') := fun w => by
              have h := kOff_any S (1000 : Int) w (wf_k r1 r2) (wf_k r3 r4)
              rw [show Km.offC S = true from by unfold Km.offC; first | (simp; done) | (simp; omega)] at h
              exact h
            have HP : Hid (∀ w, Calls Try.prog 15 #[.agg #[.int .i64 S, .int .i64 (1000 : Int)]] w fun e w' => e = .returned (.bool false) ∧ Below w.heap.size w w') := fun w => by
              have h := kPas_any S (1000 : Int) w (wf_k r1 r2) (wf_k r3 r4)
              rw [show Km.pasC S (1000 : Int) = false from by unfold Km.pasC Km.offC; first | (simp; done) | (simp; omega)] at h
              exact h
            have d1 : decide (256 ≤ S) = true := decide_eq_true (by omega)
            have d2 : decide (S < 256) = false := decide_eq_false (by omega)
            clear r1 r2 r3 r4
            try clear c1
            try clear c2
            try clear c3
            go_wp2_with fail
            refine (HO.out _).mono ?_
            rintro e w3 ⟨rfl, hb3⟩
            replace L1 : Hid (LiesC _ _ _ _) := L1.out.on hb3
            replace hA1 : Hid (Below W.heap.size W _) := below_joinC hA1.out hb3
            clear hb3 HO h1 h2 h3 h4 q1
            have z0 := L1.out.c0
            have z1 := L1.out.c1
            go_wp2_with fail
            refine (HP.out _).mono ?_
            rintro e w4 ⟨rfl, hb4⟩
            replace L1 : Hid (LiesC _ _ _ _) := L1.out.on hb4
            replace hA1 : Hid (Below W.heap.size W _) := below_joinC hA1.out hb4
            clear hb4 HP z0 z1
            have z0 := L1.out.c0
            have z1 := L1.out.c1
            go_wp2_with fail
            refine (HI.out _).mono ?_
            rintro e w5 ⟨rfl, hb5⟩
            replace L1 : Hid (LiesC _ _ _ _) := L1.out.on hb5
            replace hA1 : Hid (Below W.heap.size W _) := below_joinC hA1.out hb5
            clear hb5 HI z0 z1
            have z0 := L1.out.c0
            have z1 := L1.out.c1
            go_wp2
            go_roundw
            case rel => exact ⟨k + 1, S, (1000 : Int), by omega, by go_num, rfl, rfl, HR2, L1, hA1⟩
            case measure => simp [intOf]; omega
          · skip
            by_cases c2 : 128 ≤ S
            · skip
              have HO : Hid (∀ w, Calls Try.prog 13 #[.agg #[.int .i64 S, .int .i64 (1000 : Int)]] w fun e w' => e = .returned (.bool false) ∧ Below w.heap.size w w') := fun w => by
                have h := kOff_any S (1000 : Int) w (wf_k r1 r2) (wf_k r3 r4)
                rw [show Km.offC S = false from by unfold Km.offC; first | (simp; done) | (simp; omega)] at h
                exact h
              have HP : Hid (∀ w, Calls Try.prog 15 #[.agg #[.int .i64 S, .int .i64 (1000 : Int)]] w fun e w' => e = .returned (.bool true) ∧ Below w.heap.size w w') := fun w => by
                have h := kPas_any S (1000 : Int) w (wf_k r1 r2) (wf_k r3 r4)
                rw [show Km.pasC S (1000 : Int) = true from by unfold Km.pasC Km.offC; first | (simp; done) | (simp; omega)] at h
                exact h
              have d1 : decide (256 ≤ S) = false := decide_eq_false (by omega)
              have d2 : decide (S < 256) = true := decide_eq_true (by omega)
              have d3 : decide (128 ≤ S) = true := decide_eq_true (by omega)
              clear r1 r2 r3 r4
              try clear c1
              try clear c2
              try clear c3
              go_wp2_with fail
              refine (HO.out _).mono ?_
              rintro e w3 ⟨rfl, hb3⟩
              replace L1 : Hid (LiesC _ _ _ _) := L1.out.on hb3
              replace hA1 : Hid (Below W.heap.size W _) := below_joinC hA1.out hb3
              clear hb3 HO h1 h2 h3 h4 q1
              have z0 := L1.out.c0
              have z1 := L1.out.c1
              go_wp2_with fail
              refine (HP.out _).mono ?_
              rintro e w4 ⟨rfl, hb4⟩
              replace L1 : Hid (LiesC _ _ _ _) := L1.out.on hb4
              replace hA1 : Hid (Below W.heap.size W _) := below_joinC hA1.out hb4
              clear hb4 HP z0 z1
              have z0 := L1.out.c0
              have z1 := L1.out.c1
              go_wp2_with fail
              refine (HI.out _).mono ?_
              rintro e w5 ⟨rfl, hb5⟩
              replace L1 : Hid (LiesC _ _ _ _) := L1.out.on hb5
              replace hA1 : Hid (Below W.heap.size W _) := below_joinC hA1.out hb5
              clear hb5 HI z0 z1
              have z0 := L1.out.c0
              have z1 := L1.out.c1
              go_wp2
              go_roundw
              case rel => exact ⟨k + 1, S, (1000 : Int), by omega, by go_num, rfl, rfl, HR2, L1, hA1⟩
              case measure => simp [intOf]; omega
            · skip
              have HO : Hid (∀ w, Calls Try.prog 13 #[.agg #[.int .i64 S, .int .i64 (1000 : Int)]] w fun e w' => e = .returned (.bool false) ∧ Below w.heap.size w w') := fun w => by
                have h := kOff_any S (1000 : Int) w (wf_k r1 r2) (wf_k r3 r4)
                rw [show Km.offC S = false from by unfold Km.offC; first | (simp; done) | (simp; omega)] at h
                exact h
              have HP : Hid (∀ w, Calls Try.prog 15 #[.agg #[.int .i64 S, .int .i64 (1000 : Int)]] w fun e w' => e = .returned (.bool true) ∧ Below w.heap.size w w') := fun w => by
                have h := kPas_any S (1000 : Int) w (wf_k r1 r2) (wf_k r3 r4)
                rw [show Km.pasC S (1000 : Int) = true from by unfold Km.pasC Km.offC; first | (simp; done) | (simp; omega)] at h
                exact h
              have d1 : decide (256 ≤ S) = false := decide_eq_false (by omega)
              have d2 : decide (S < 256) = true := decide_eq_true (by omega)
              have d3 : decide (128 ≤ S) = false := decide_eq_false (by omega)
              have d4 : decide (128 ≤ (1000 : Int)) = true := decide_eq_true (by omega)
              clear r1 r2 r3 r4
              try clear c1
              try clear c2
              try clear c3
              go_wp2_with fail
              refine (HO.out _).mono ?_
              rintro e w3 ⟨rfl, hb3⟩
              replace L1 : Hid (LiesC _ _ _ _) := L1.out.on hb3
              replace hA1 : Hid (Below W.heap.size W _) := below_joinC hA1.out hb3
              clear hb3 HO h1 h2 h3 h4 q1
              have z0 := L1.out.c0
              have z1 := L1.out.c1
              go_wp2_with fail
              refine (HP.out _).mono ?_
              rintro e w4 ⟨rfl, hb4⟩
              replace L1 : Hid (LiesC _ _ _ _) := L1.out.on hb4
              replace hA1 : Hid (Below W.heap.size W _) := below_joinC hA1.out hb4
              clear hb4 HP z0 z1
              have z0 := L1.out.c0
              have z1 := L1.out.c1
              go_wp2_with fail
              refine (HI.out _).mono ?_
              rintro e w5 ⟨rfl, hb5⟩
              replace L1 : Hid (LiesC _ _ _ _) := L1.out.on hb5
              replace hA1 : Hid (Below W.heap.size W _) := below_joinC hA1.out hb5
              clear hb5 HI z0 z1
              have z0 := L1.out.c0
              have z1 := L1.out.c1
              go_wp2
              go_roundw
              case rel => exact ⟨k + 1, S, (1000 : Int), by omega, by go_num, rfl, rfl, HR2, L1, hA1⟩
              case measure => simp [intOf]; omega
    · obtain rfl : k = len := by omega
      go_wp2
      go_ret
      exact ⟨rfl, hA.out⟩
set_option maxRecDepth 100000 in
set_option maxHeartbeats 1000000 in
theorem empty (s : Option Addr) (len cap : Nat) (h : len = 0 ∨ 300 < len) (W : World) :
    Calls Try.prog 4 #[.slice s len cap] W fun e w' => e = .returned (.bool true) ∧ Below W.heap.size W w' := by
  rcases h with rfl | h
  · go_enter Try.func4, Try.ntmps4
    go_wp2_with fail
    refine (known5_any _).mono ?_
    rintro e w1 ⟨rfl, hb1⟩
    go_wp2_with fail
    go_loopw [4, 5, 6] (fun s g i wr => i = .int .i64 0 ∧ s = .int .i64 0 ∧ g = .int .i64 0 ∧ Hid (Below W.heap.size W wr)) (fun _ _ i _ => 0)
    case atStart => exact ⟨rfl, rfl, rfl, hb1.alloc hb1.size _⟩
    case round =>
      obtain ⟨rfl, rfl, rfl, hA⟩ := hrel
      go_wp2
      go_ret
      exact ⟨rfl, hA.out⟩
  · go_enter Try.func4, Try.ntmps4
    go_wp2_with fail
    refine (known5_any _).mono ?_
    rintro e w1 ⟨rfl, hb1⟩
    go_wp2
    go_ret
    exact ⟨rfl, hb1⟩
theorem walk (s0 : Option Addr) (len0 cap0 : Nat) (a0 : Nat → Nat) {w : World} (w0 : IsU8s w s0 len0 cap0 a0) (w' : World) (hw : w' = w) :
    Calls Try.prog 4 #[.slice s0 len0 cap0] w' fun e w'' => e = .returned (.bool true) ∧ Below w'.heap.size w' w'' := by
  subst hw
  rcases w0 with ⟨rfl, rfl, rfl⟩ | ⟨x, rfl, hl, hm, hcell⟩
  · exact empty none 0 0 (Or.inl rfl) _
  · by_cases h1 : 300 < len0
    · exact empty _ _ _ (Or.inr h1) _
    · by_cases h0 : len0 = 0
      · exact empty _ _ _ (Or.inl h0) _
      · obtain ⟨b, off, spot⟩ := x
        have hspot : spot = none := by simpa [Addr.add] using World.cell?_spot (hcell 0 (by omega)).1
        subst hspot
        refine row b off len0 cap0 a0 (fun i => ?_) (by omega) _ (fun i hi => by rw [← Go.WideShapes.add_plain]; exact (hcell i (by omega)).1)
        by_cases hi : i < cap0
        · exact Or.inl (hcell i hi).2
        · exact Or.inr (by omega)
theorem laidOut : laidOutB Try.prog = true := by kernel_rfl
theorem own : ownKnob Try.prog.godebug = none := by kernel_rfl
set_option maxRecDepth 100000 in
theorem lifted (os : Os) (started : os.Started) (H : Type) (enc : TypeId × Value → H) :
    ReturnsInHanded {} Try.checked os 4 .any (Rows.confineRowsSpec.pre6 enc Try.prog Try.f4 Rows.confineRowsRow.domain false) (Rows.confineRowsSpec.post enc Try.prog Try.f4 false true false false) := by
  refine returnsInHanded_of_change (C := Try.checked) own started (by kernel_rfl) Try.func4
    (ChangeSpec.witness6 (enc := enc) (C := Try.checked) false ⟨#[], #[.slice none 0 0], []⟩ 8 (by kernel_rfl) (by kernel_rfl) (by kernel_rfl) (by kernel_rfl)) ?_
  intro W base args ds gs before hval0 hW hcnd _
  have hval : ∀ (j : Nat) t v, Try.f4.params[j]? = some t → args[j]? = some v → Value.okWide Try.prog W .any base t v := hval0
  have hW' := hW
  obtain ⟨p, q, hA0, hV, rfl, hfz, hnd⟩ := hW
  have hA : DataW.TrodAll enc Try.prog W 0 (fun _ => true) true Try.f4.params.toList args.toList ds p := hA0
  rw [Try.params4] at hA hval
  obtain ⟨v0, vs0, d0, ds0, p0, q0, hargs, rfl, rfl, h0, r0⟩ := trodAll_cons hA
  obtain ⟨rfl, rfl, rfl⟩ := trodAll_nil r0
  obtain rfl : args = #[v0] := by cases args; simp_all
  obtain ⟨rfl, rfl⟩ := trodVars_none hV
  obtain ⟨s0, len0, cap0, rfl⟩ := okWide_slice Try.underlying28 (hval 0 28 v0 rfl rfl)
  have k0 := h0
  have lt0 : ∀ x ∈ p0, x.block < W.heap.size := by obtain ⟨m, hm⟩ := k0; exact DataW.trod_lt m _ _ _ hm
  obtain ⟨a0, w0⟩ := u8s_of_trod h0
  clear hA0 hval0
  refine (walk s0 len0 cap0 a0 w0 W rfl).mono fun e W' ⟨he, bel⟩ => ?_
  subst he
  exact ⟨_, rfl, _, _, _, [], _, [], hW', trodAll_mk1 (shut_bool Try.underlying4 _), (trodAll_cons_mk (Below.trod laidOut (by kernel_rfl) (of_decide_eq_true (by kernel_rfl)) k0 bel lt0) trodAll_mk0), rfl, bel.frame _, fun h => by cases h⟩
theorem over : Rows.confineRowsRow.holds Try.pinned (OpenSpec.ofChange Rows.confineRowsSpec) :=
  OpenClaim.holds_of_wide 4 Try.f4 rfl rfl rfl rfl rfl rfl rfl ⟨rfl, rfl, rfl, rfl, rfl⟩ rfl rfl rfl rfl rfl (by kernel_rfl) Try.func4 (by kernel_rfl)
    (of_decide_eq_true (by kernel_rfl)) (by unfold Func.isWrapper; first | (rw [if_pos (by decide +kernel)]; kernel_rfl) | (rw [if_neg (by decide +kernel)]; exact ⟨rfl, rfl⟩))
    (fun os started H enc _ => lifted os started H enc)
end Go.Proofs.Ytnldihejdhceoaa.confineRows
namespace Go.Proofs.Ytnldihejdhceoaa
/-- The statement. -/
theorem confineRows_holds : Rows.ConfineRowsSaid := confineRows.over
#print axioms confineRows_holds
end Go.Proofs.Ytnldihejdhceoaa
