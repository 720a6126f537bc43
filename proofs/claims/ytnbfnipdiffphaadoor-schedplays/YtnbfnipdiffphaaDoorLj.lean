/- Package check, over the landed code: the first place at which something is wrong, of itself or between it and one ahead of it. -/
import Derived.Test.YtnbfnipdiffphaaDoorBc
import Derived.Test.YtnbfnipdiffphaaDoorLp
import Derived.Deep.CutBlock
import Derived.WalkMore
namespace Go.Proofs.YtnbfnipdiffphaaDoor
open Go.RowKit Go.WideShapes
set_option linter.unusedVariables false

set_option maxRecDepth 100000 in
set_option maxHeartbeats 4000000 in
theorem ck_first1 (W : World) (n : Nat) (hn : n ≤ 1000) (p : Nat) (f : Nat → Int) (g : Nat → Nat → Int)
    (hf : ∀ w (k : Nat), Below W.heap.size W w → k < n → Calls Tryd.prog 63 #[.int .i64 (k : Int), Ob.ptr p] w fun e w' => e = .returned (.int .i64 (f k)) ∧ Below w.heap.size w w') (hg : ∀ w (j k : Nat), Below W.heap.size W w → j < k → k < n → Calls Tryd.prog 66 #[.int .i64 (j : Int), .int .i64 (k : Int)] w fun e w' => e = .returned (.int .i64 (g j k)) ∧ Below w.heap.size w w') :
    Calls Tryd.prog 62 #[.int .i64 (n : Int), .func (.func 63) #[] #[Ob.ptr p], .func (.func 66) #[] #[]] W fun e w' => e = .returned (.tuple #[.int .i64 (Lq.scan (Lq.pr f g) n 0).1, .int .i64 (Lq.scan (Lq.pr f g) n 0).2]) ∧ Below W.heap.size W w' := by
  have HR1 : Hid (∀ k, k < n → (∀ j, j < k → Lq.pr f g j = 0) → f k ≠ 0 → Lq.scan (Lq.pr f g) n 0 = ((k : Int), f k)) := fun k hk h0 h1 => by
    have h2 := Lq.pr_self (g := g) h1
    rw [Lq.scan_some (f := Lq.pr f g) (by rw [h2]; exact h1) (Nat.zero_le _) (by omega) (fun i _ hi => h0 i hi), h2]
  have HR2 : Hid (∀ k j, k < n → j < k → (∀ j, j < k → Lq.pr f g j = 0) → f k = 0 → (∀ i, i < j → g i k = 0) → g j k ≠ 0 → Lq.scan (Lq.pr f g) n 0 = ((k : Int), g j k)) := fun k j hk hj h0 hf0 hi h1 => by
    have h2 := Lq.pr_pair hf0 hi hj h1
    rw [Lq.scan_some (f := Lq.pr f g) (by rw [h2]; exact h1) (Nat.zero_le _) (by omega) (fun i _ hi => h0 i hi), h2]
  have HR3 : Hid ((∀ j, j < n → Lq.pr f g j = 0) → Lq.scan (Lq.pr f g) n 0 = (0, 0)) := fun h => Lq.scan_none (fun j _ hj => h j (by omega))
  have HN : Hid (∀ k, (∀ j, j < k → Lq.pr f g j = 0) → f k = 0 → (∀ i, i < k → g i k = 0) → ∀ j, j < k + 1 → Lq.pr f g j = 0) := fun k h0 h1 h2 => Lq.upto h0 (Lq.pr_none h1 h2)
  have CF : Hid (∀ w (k : Nat) (x : Int), Below W.heap.size W w → k < n → f k = x → Calls Tryd.prog 63 #[.int .i64 (k : Int), Ob.ptr p] w fun e w' => e = .returned (.int .i64 x) ∧ Below w.heap.size w w') := fun w k x hb hk hx => hx ▸ hf w k hb hk
  have CG : Hid (∀ w (j k : Nat) (x : Int), Below W.heap.size W w → j < k → k < n → g j k = x → Calls Tryd.prog 66 #[.int .i64 (j : Int), .int .i64 (k : Int)] w fun e w' => e = .returned (.int .i64 x) ∧ Below w.heap.size w w') := fun w j k x hb hj hk hx => hx ▸ hg w j k hb hj hk
  clear hf hg
  generalize Lq.scan (Lq.pr f g) n 0 = R at HR1 HR2 HR3 ⊢
  generalize Lq.pr f g = P at HR1 HR2 HR3 HN
  obtain ⟨R1, R2⟩ := R
  dsimp only
  go_enter Tryd.func62, Tryd.ntmps62
  go_wp2_with fail
  go_step3
  go_wp2_with fail
  go_step3
  go_upto_block 0 with fail
  go_cut [8, 9, 10, 11] from 12 to 34 (fun v8 v9 _v10 _v11 wx => v8 = .int .i64 R1 ∧ v9 = .int .i64 R2 ∧ Hid (Below W.heap.size W wx))
  case first =>
    go_wp2_with fail
    go_loopw [13, 8, 9, 10, 11] (fun vi v8 v9 _v10 _v11 wr => ∃ k : Nat, k ≤ n ∧ vi = .int .i64 (k : Int) ∧ v8 = .int .i64 0 ∧ v9 = .int .i64 0 ∧ Hid (Below W.heap.size W wr) ∧ Hid (∀ j, j < k → P j = 0)) (fun vi _ _ _ _ _ => n - (intOf vi).toNat)
    case atStart => exact ⟨0, Nat.zero_le _, rfl, rfl, rfl, Below.refl _ _, fun j hj => absurd hj (Nat.not_lt_zero _)⟩
    case round =>
      obtain ⟨k, hk, rfl, rfl, rfl, HB, HF⟩ := hrel
      by_cases hlt : k < n
      · have ki : (k : Int) < (n : Int) := by omega
        have kb : (k : Int) < 1000 := by omega
        obtain ⟨x, hx⟩ : ∃ x, f k = x := ⟨_, rfl⟩
        have HC := CF.out wr k x HB.out hlt hx
        by_cases hx0 : x = 0
        · subst hx0
          have HX0 : Hid (f k = 0) := hx
          clear hx
          go_wp2_with fail
          refine HC.mono ?_
          rintro e w1 ⟨rfl, hb⟩
          have HB1 : Hid (Below W.heap.size W w1) := HB.out.trans (hb.mono HB.out.size)
          clear hb HC HB
          go_wp2_with fail
          go_loopw [23, 8, 9, 11] (fun vi v8 v9 _v11 wr => ∃ j : Nat, j ≤ k ∧ vi = .int .i64 (j : Int) ∧ v8 = .int .i64 0 ∧ v9 = .int .i64 0 ∧ Hid (Below W.heap.size W wr) ∧ Hid (∀ i, i < j → g i k = 0)) (fun vi _ _ _ _ => k - (intOf vi).toNat)
          case atStart => exact ⟨0, Nat.zero_le _, rfl, rfl, rfl, HB1, fun j hj => absurd hj (Nat.not_lt_zero _)⟩
          case round =>
            clear HB1
            obtain ⟨j, hj, rfl, rfl, rfl, HB, HG⟩ := hrel
            by_cases hjk : j < k
            · have ji : (j : Int) < (k : Int) := by omega
              have jb : (j : Int) < 1000 := by omega
              obtain ⟨y, hy⟩ : ∃ y, g j k = y := ⟨_, rfl⟩
              have HC := CG.out _ j k y HB.out hjk hlt hy
              by_cases hy0 : y = 0
              · subst hy0
                have HG2 : Hid (∀ i, i < j + 1 → g i k = 0) := Lq.upto (f := fun i => g i k) HG.out hy
                clear hy HG
                go_wp2_with fail
                refine HC.mono ?_
                rintro e w2 ⟨rfl, hb⟩
                have HB2 : Hid (Below W.heap.size W w2) := HB.out.trans (hb.mono HB.out.size)
                clear hb HC HB
                go_wp2_with fail
                go_roundw
                case rel => exact ⟨j + 1, by omega, rfl, rfl, rfl, HB2, HG2⟩
                case measure => simp only [intOf]; omega
              · have hR := HR2.out k j hlt hjk HF.out HX0.out HG.out (by rw [hy]; exact hy0)
                have yb : (y != 0) = true := by simpa [bne] using hy0
                rw [hy] at hR
                obtain ⟨rfl, rfl⟩ : R1 = (k : Int) ∧ R2 = y := by injection hR with h1 h2; exact ⟨h1, h2⟩
                clear hR hy hy0 HR1 HR2 HR3 HN
                go_wp2_with fail
                refine HC.mono ?_
                rintro e w2 ⟨rfl, hb⟩
                have HB2 : Hid (Below W.heap.size W w2) := HB.out.trans (hb.mono HB.out.size)
                clear hb HC HB
                go_wp2_with fail
                go_meet
                case rel => exact ⟨rfl, rfl, HB2⟩
            · have ji : ¬ ((j : Int) < (k : Int)) := by omega
              have HF2 : Hid (∀ j, j < k + 1 → P j = 0) := HN.out k HF.out HX0.out (fun i hi => HG.out i (by omega))
              clear HG
              go_wp2_with fail
              go_roundw
              case rel => exact ⟨k + 1, by omega, rfl, rfl, rfl, HB, HF2⟩
              case measure => simp only [intOf]; omega
        · have hR := HR1.out k hlt HF.out (by rw [hx]; exact hx0)
          have xb : (x != 0) = true := by simpa [bne] using hx0
          rw [hx] at hR
          obtain ⟨rfl, rfl⟩ : R1 = (k : Int) ∧ R2 = x := by injection hR with h1 h2; exact ⟨h1, h2⟩
          clear hR hx hx0 HR1 HR2 HR3 HN
          go_wp2_with fail
          refine HC.mono ?_
          rintro e w1 ⟨rfl, hb⟩
          have HB1 : Hid (Below W.heap.size W w1) := HB.out.trans (hb.mono HB.out.size)
          clear hb HC HB
          go_wp2_with fail
          go_meet
          case rel => exact ⟨rfl, rfl, HB1⟩
      · have ki : ¬ ((k : Int) < (n : Int)) := by omega
        have hR := HR3.out (fun j hj => HF.out j (by omega))
        obtain ⟨rfl, rfl⟩ : R1 = 0 ∧ R2 = 0 := by injection hR with h1 h2; exact ⟨h1, h2⟩
        clear hR HR1 HR2 HR3 HN
        go_wp2_with fail
        go_meet
        case rel => exact ⟨rfl, rfl, HB⟩
  case rest =>
    obtain ⟨rfl, rfl, HB⟩ := hcut
    go_wp2
    rw [Exit.noGoto_ret]
    go_ret2
    exact ⟨rfl, HB.out⟩

set_option maxRecDepth 100000 in
set_option maxHeartbeats 4000000 in
theorem ck_first2 (W : World) (n : Nat) (hn : n ≤ 1000) (p : Nat) (f : Nat → Int) (g : Nat → Nat → Int)
    (hf : ∀ w (k : Nat), Below W.heap.size W w → k < n → Calls Tryd.prog 67 #[.int .i64 (k : Int), Ob.ptr p] w fun e w' => e = .returned (.int .i64 (f k)) ∧ Below w.heap.size w w') (hg : ∀ w (j k : Nat), Below W.heap.size W w → j < k → k < n → Calls Tryd.prog 66 #[.int .i64 (j : Int), .int .i64 (k : Int)] w fun e w' => e = .returned (.int .i64 (g j k)) ∧ Below w.heap.size w w') :
    Calls Tryd.prog 62 #[.int .i64 (n : Int), .func (.func 67) #[] #[Ob.ptr p], .func (.func 66) #[] #[]] W fun e w' => e = .returned (.tuple #[.int .i64 (Lq.scan (Lq.pr f g) n 0).1, .int .i64 (Lq.scan (Lq.pr f g) n 0).2]) ∧ Below W.heap.size W w' := by
  have HR1 : Hid (∀ k, k < n → (∀ j, j < k → Lq.pr f g j = 0) → f k ≠ 0 → Lq.scan (Lq.pr f g) n 0 = ((k : Int), f k)) := fun k hk h0 h1 => by
    have h2 := Lq.pr_self (g := g) h1
    rw [Lq.scan_some (f := Lq.pr f g) (by rw [h2]; exact h1) (Nat.zero_le _) (by omega) (fun i _ hi => h0 i hi), h2]
  have HR2 : Hid (∀ k j, k < n → j < k → (∀ j, j < k → Lq.pr f g j = 0) → f k = 0 → (∀ i, i < j → g i k = 0) → g j k ≠ 0 → Lq.scan (Lq.pr f g) n 0 = ((k : Int), g j k)) := fun k j hk hj h0 hf0 hi h1 => by
    have h2 := Lq.pr_pair hf0 hi hj h1
    rw [Lq.scan_some (f := Lq.pr f g) (by rw [h2]; exact h1) (Nat.zero_le _) (by omega) (fun i _ hi => h0 i hi), h2]
  have HR3 : Hid ((∀ j, j < n → Lq.pr f g j = 0) → Lq.scan (Lq.pr f g) n 0 = (0, 0)) := fun h => Lq.scan_none (fun j _ hj => h j (by omega))
  have HN : Hid (∀ k, (∀ j, j < k → Lq.pr f g j = 0) → f k = 0 → (∀ i, i < k → g i k = 0) → ∀ j, j < k + 1 → Lq.pr f g j = 0) := fun k h0 h1 h2 => Lq.upto h0 (Lq.pr_none h1 h2)
  have CF : Hid (∀ w (k : Nat) (x : Int), Below W.heap.size W w → k < n → f k = x → Calls Tryd.prog 67 #[.int .i64 (k : Int), Ob.ptr p] w fun e w' => e = .returned (.int .i64 x) ∧ Below w.heap.size w w') := fun w k x hb hk hx => hx ▸ hf w k hb hk
  have CG : Hid (∀ w (j k : Nat) (x : Int), Below W.heap.size W w → j < k → k < n → g j k = x → Calls Tryd.prog 66 #[.int .i64 (j : Int), .int .i64 (k : Int)] w fun e w' => e = .returned (.int .i64 x) ∧ Below w.heap.size w w') := fun w j k x hb hj hk hx => hx ▸ hg w j k hb hj hk
  clear hf hg
  generalize Lq.scan (Lq.pr f g) n 0 = R at HR1 HR2 HR3 ⊢
  generalize Lq.pr f g = P at HR1 HR2 HR3 HN
  obtain ⟨R1, R2⟩ := R
  dsimp only
  go_enter Tryd.func62, Tryd.ntmps62
  go_wp2_with fail
  go_step3
  go_wp2_with fail
  go_step3
  go_upto_block 0 with fail
  go_cut [8, 9, 10, 11] from 12 to 34 (fun v8 v9 _v10 _v11 wx => v8 = .int .i64 R1 ∧ v9 = .int .i64 R2 ∧ Hid (Below W.heap.size W wx))
  case first =>
    go_wp2_with fail
    go_loopw [13, 8, 9, 10, 11] (fun vi v8 v9 _v10 _v11 wr => ∃ k : Nat, k ≤ n ∧ vi = .int .i64 (k : Int) ∧ v8 = .int .i64 0 ∧ v9 = .int .i64 0 ∧ Hid (Below W.heap.size W wr) ∧ Hid (∀ j, j < k → P j = 0)) (fun vi _ _ _ _ _ => n - (intOf vi).toNat)
    case atStart => exact ⟨0, Nat.zero_le _, rfl, rfl, rfl, Below.refl _ _, fun j hj => absurd hj (Nat.not_lt_zero _)⟩
    case round =>
      obtain ⟨k, hk, rfl, rfl, rfl, HB, HF⟩ := hrel
      by_cases hlt : k < n
      · have ki : (k : Int) < (n : Int) := by omega
        have kb : (k : Int) < 1000 := by omega
        obtain ⟨x, hx⟩ : ∃ x, f k = x := ⟨_, rfl⟩
        have HC := CF.out wr k x HB.out hlt hx
        by_cases hx0 : x = 0
        · subst hx0
          have HX0 : Hid (f k = 0) := hx
          clear hx
          go_wp2_with fail
          refine HC.mono ?_
          rintro e w1 ⟨rfl, hb⟩
          have HB1 : Hid (Below W.heap.size W w1) := HB.out.trans (hb.mono HB.out.size)
          clear hb HC HB
          go_wp2_with fail
          go_loopw [23, 8, 9, 11] (fun vi v8 v9 _v11 wr => ∃ j : Nat, j ≤ k ∧ vi = .int .i64 (j : Int) ∧ v8 = .int .i64 0 ∧ v9 = .int .i64 0 ∧ Hid (Below W.heap.size W wr) ∧ Hid (∀ i, i < j → g i k = 0)) (fun vi _ _ _ _ => k - (intOf vi).toNat)
          case atStart => exact ⟨0, Nat.zero_le _, rfl, rfl, rfl, HB1, fun j hj => absurd hj (Nat.not_lt_zero _)⟩
          case round =>
            clear HB1
            obtain ⟨j, hj, rfl, rfl, rfl, HB, HG⟩ := hrel
            by_cases hjk : j < k
            · have ji : (j : Int) < (k : Int) := by omega
              have jb : (j : Int) < 1000 := by omega
              obtain ⟨y, hy⟩ : ∃ y, g j k = y := ⟨_, rfl⟩
              have HC := CG.out _ j k y HB.out hjk hlt hy
              by_cases hy0 : y = 0
              · subst hy0
                have HG2 : Hid (∀ i, i < j + 1 → g i k = 0) := Lq.upto (f := fun i => g i k) HG.out hy
                clear hy HG
                go_wp2_with fail
                refine HC.mono ?_
                rintro e w2 ⟨rfl, hb⟩
                have HB2 : Hid (Below W.heap.size W w2) := HB.out.trans (hb.mono HB.out.size)
                clear hb HC HB
                go_wp2_with fail
                go_roundw
                case rel => exact ⟨j + 1, by omega, rfl, rfl, rfl, HB2, HG2⟩
                case measure => simp only [intOf]; omega
              · have hR := HR2.out k j hlt hjk HF.out HX0.out HG.out (by rw [hy]; exact hy0)
                have yb : (y != 0) = true := by simpa [bne] using hy0
                rw [hy] at hR
                obtain ⟨rfl, rfl⟩ : R1 = (k : Int) ∧ R2 = y := by injection hR with h1 h2; exact ⟨h1, h2⟩
                clear hR hy hy0 HR1 HR2 HR3 HN
                go_wp2_with fail
                refine HC.mono ?_
                rintro e w2 ⟨rfl, hb⟩
                have HB2 : Hid (Below W.heap.size W w2) := HB.out.trans (hb.mono HB.out.size)
                clear hb HC HB
                go_wp2_with fail
                go_meet
                case rel => exact ⟨rfl, rfl, HB2⟩
            · have ji : ¬ ((j : Int) < (k : Int)) := by omega
              have HF2 : Hid (∀ j, j < k + 1 → P j = 0) := HN.out k HF.out HX0.out (fun i hi => HG.out i (by omega))
              clear HG
              go_wp2_with fail
              go_roundw
              case rel => exact ⟨k + 1, by omega, rfl, rfl, rfl, HB, HF2⟩
              case measure => simp only [intOf]; omega
        · have hR := HR1.out k hlt HF.out (by rw [hx]; exact hx0)
          have xb : (x != 0) = true := by simpa [bne] using hx0
          rw [hx] at hR
          obtain ⟨rfl, rfl⟩ : R1 = (k : Int) ∧ R2 = x := by injection hR with h1 h2; exact ⟨h1, h2⟩
          clear hR hx hx0 HR1 HR2 HR3 HN
          go_wp2_with fail
          refine HC.mono ?_
          rintro e w1 ⟨rfl, hb⟩
          have HB1 : Hid (Below W.heap.size W w1) := HB.out.trans (hb.mono HB.out.size)
          clear hb HC HB
          go_wp2_with fail
          go_meet
          case rel => exact ⟨rfl, rfl, HB1⟩
      · have ki : ¬ ((k : Int) < (n : Int)) := by omega
        have hR := HR3.out (fun j hj => HF.out j (by omega))
        obtain ⟨rfl, rfl⟩ : R1 = 0 ∧ R2 = 0 := by injection hR with h1 h2; exact ⟨h1, h2⟩
        clear hR HR1 HR2 HR3 HN
        go_wp2_with fail
        go_meet
        case rel => exact ⟨rfl, rfl, HB⟩
  case rest =>
    obtain ⟨rfl, rfl, HB⟩ := hcut
    go_wp2
    rw [Exit.noGoto_ret]
    go_ret2
    exact ⟨rfl, HB.out⟩

set_option maxRecDepth 100000 in
set_option maxHeartbeats 4000000 in
theorem ck_first3 (W : World) (n : Nat) (hn : n ≤ 1000) (p : Nat) (f : Nat → Int) (g : Nat → Nat → Int)
    (hf : ∀ w (k : Nat), Below W.heap.size W w → k < n → Calls Tryd.prog 68 #[.int .i64 (k : Int)] w fun e w' => e = .returned (.int .i64 (f k)) ∧ Below w.heap.size w w') (hg : ∀ w (j k : Nat), Below W.heap.size W w → j < k → k < n → Calls Tryd.prog 69 #[.int .i64 (j : Int), .int .i64 (k : Int), Ob.ptr p] w fun e w' => e = .returned (.int .i64 (g j k)) ∧ Below w.heap.size w w') :
    Calls Tryd.prog 62 #[.int .i64 (n : Int), .func (.func 68) #[] #[], .func (.func 69) #[] #[Ob.ptr p]] W fun e w' => e = .returned (.tuple #[.int .i64 (Lq.scan (Lq.pr f g) n 0).1, .int .i64 (Lq.scan (Lq.pr f g) n 0).2]) ∧ Below W.heap.size W w' := by
  have HR1 : Hid (∀ k, k < n → (∀ j, j < k → Lq.pr f g j = 0) → f k ≠ 0 → Lq.scan (Lq.pr f g) n 0 = ((k : Int), f k)) := fun k hk h0 h1 => by
    have h2 := Lq.pr_self (g := g) h1
    rw [Lq.scan_some (f := Lq.pr f g) (by rw [h2]; exact h1) (Nat.zero_le _) (by omega) (fun i _ hi => h0 i hi), h2]
  have HR2 : Hid (∀ k j, k < n → j < k → (∀ j, j < k → Lq.pr f g j = 0) → f k = 0 → (∀ i, i < j → g i k = 0) → g j k ≠ 0 → Lq.scan (Lq.pr f g) n 0 = ((k : Int), g j k)) := fun k j hk hj h0 hf0 hi h1 => by
    have h2 := Lq.pr_pair hf0 hi hj h1
    rw [Lq.scan_some (f := Lq.pr f g) (by rw [h2]; exact h1) (Nat.zero_le _) (by omega) (fun i _ hi => h0 i hi), h2]
  have HR3 : Hid ((∀ j, j < n → Lq.pr f g j = 0) → Lq.scan (Lq.pr f g) n 0 = (0, 0)) := fun h => Lq.scan_none (fun j _ hj => h j (by omega))
  have HN : Hid (∀ k, (∀ j, j < k → Lq.pr f g j = 0) → f k = 0 → (∀ i, i < k → g i k = 0) → ∀ j, j < k + 1 → Lq.pr f g j = 0) := fun k h0 h1 h2 => Lq.upto h0 (Lq.pr_none h1 h2)
  have CF : Hid (∀ w (k : Nat) (x : Int), Below W.heap.size W w → k < n → f k = x → Calls Tryd.prog 68 #[.int .i64 (k : Int)] w fun e w' => e = .returned (.int .i64 x) ∧ Below w.heap.size w w') := fun w k x hb hk hx => hx ▸ hf w k hb hk
  have CG : Hid (∀ w (j k : Nat) (x : Int), Below W.heap.size W w → j < k → k < n → g j k = x → Calls Tryd.prog 69 #[.int .i64 (j : Int), .int .i64 (k : Int), Ob.ptr p] w fun e w' => e = .returned (.int .i64 x) ∧ Below w.heap.size w w') := fun w j k x hb hj hk hx => hx ▸ hg w j k hb hj hk
  clear hf hg
  generalize Lq.scan (Lq.pr f g) n 0 = R at HR1 HR2 HR3 ⊢
  generalize Lq.pr f g = P at HR1 HR2 HR3 HN
  obtain ⟨R1, R2⟩ := R
  dsimp only
  go_enter Tryd.func62, Tryd.ntmps62
  go_wp2_with fail
  go_step3
  go_wp2_with fail
  go_step3
  go_upto_block 0 with fail
  go_cut [8, 9, 10, 11] from 12 to 34 (fun v8 v9 _v10 _v11 wx => v8 = .int .i64 R1 ∧ v9 = .int .i64 R2 ∧ Hid (Below W.heap.size W wx))
  case first =>
    go_wp2_with fail
    go_loopw [13, 8, 9, 10, 11] (fun vi v8 v9 _v10 _v11 wr => ∃ k : Nat, k ≤ n ∧ vi = .int .i64 (k : Int) ∧ v8 = .int .i64 0 ∧ v9 = .int .i64 0 ∧ Hid (Below W.heap.size W wr) ∧ Hid (∀ j, j < k → P j = 0)) (fun vi _ _ _ _ _ => n - (intOf vi).toNat)
    case atStart => exact ⟨0, Nat.zero_le _, rfl, rfl, rfl, Below.refl _ _, fun j hj => absurd hj (Nat.not_lt_zero _)⟩
    case round =>
      obtain ⟨k, hk, rfl, rfl, rfl, HB, HF⟩ := hrel
      by_cases hlt : k < n
      · have ki : (k : Int) < (n : Int) := by omega
        have kb : (k : Int) < 1000 := by omega
        obtain ⟨x, hx⟩ : ∃ x, f k = x := ⟨_, rfl⟩
        have HC := CF.out wr k x HB.out hlt hx
        by_cases hx0 : x = 0
        · subst hx0
          have HX0 : Hid (f k = 0) := hx
          clear hx
          go_wp2_with fail
          refine HC.mono ?_
          rintro e w1 ⟨rfl, hb⟩
          have HB1 : Hid (Below W.heap.size W w1) := HB.out.trans (hb.mono HB.out.size)
          clear hb HC HB
          go_wp2_with fail
          go_loopw [23, 8, 9, 11] (fun vi v8 v9 _v11 wr => ∃ j : Nat, j ≤ k ∧ vi = .int .i64 (j : Int) ∧ v8 = .int .i64 0 ∧ v9 = .int .i64 0 ∧ Hid (Below W.heap.size W wr) ∧ Hid (∀ i, i < j → g i k = 0)) (fun vi _ _ _ _ => k - (intOf vi).toNat)
          case atStart => exact ⟨0, Nat.zero_le _, rfl, rfl, rfl, HB1, fun j hj => absurd hj (Nat.not_lt_zero _)⟩
          case round =>
            clear HB1
            obtain ⟨j, hj, rfl, rfl, rfl, HB, HG⟩ := hrel
            by_cases hjk : j < k
            · have ji : (j : Int) < (k : Int) := by omega
              have jb : (j : Int) < 1000 := by omega
              obtain ⟨y, hy⟩ : ∃ y, g j k = y := ⟨_, rfl⟩
              have HC := CG.out _ j k y HB.out hjk hlt hy
              by_cases hy0 : y = 0
              · subst hy0
                have HG2 : Hid (∀ i, i < j + 1 → g i k = 0) := Lq.upto (f := fun i => g i k) HG.out hy
                clear hy HG
                go_wp2_with fail
                refine HC.mono ?_
                rintro e w2 ⟨rfl, hb⟩
                have HB2 : Hid (Below W.heap.size W w2) := HB.out.trans (hb.mono HB.out.size)
                clear hb HC HB
                go_wp2_with fail
                go_roundw
                case rel => exact ⟨j + 1, by omega, rfl, rfl, rfl, HB2, HG2⟩
                case measure => simp only [intOf]; omega
              · have hR := HR2.out k j hlt hjk HF.out HX0.out HG.out (by rw [hy]; exact hy0)
                have yb : (y != 0) = true := by simpa [bne] using hy0
                rw [hy] at hR
                obtain ⟨rfl, rfl⟩ : R1 = (k : Int) ∧ R2 = y := by injection hR with h1 h2; exact ⟨h1, h2⟩
                clear hR hy hy0 HR1 HR2 HR3 HN
                go_wp2_with fail
                refine HC.mono ?_
                rintro e w2 ⟨rfl, hb⟩
                have HB2 : Hid (Below W.heap.size W w2) := HB.out.trans (hb.mono HB.out.size)
                clear hb HC HB
                go_wp2_with fail
                go_meet
                case rel => exact ⟨rfl, rfl, HB2⟩
            · have ji : ¬ ((j : Int) < (k : Int)) := by omega
              have HF2 : Hid (∀ j, j < k + 1 → P j = 0) := HN.out k HF.out HX0.out (fun i hi => HG.out i (by omega))
              clear HG
              go_wp2_with fail
              go_roundw
              case rel => exact ⟨k + 1, by omega, rfl, rfl, rfl, HB, HF2⟩
              case measure => simp only [intOf]; omega
        · have hR := HR1.out k hlt HF.out (by rw [hx]; exact hx0)
          have xb : (x != 0) = true := by simpa [bne] using hx0
          rw [hx] at hR
          obtain ⟨rfl, rfl⟩ : R1 = (k : Int) ∧ R2 = x := by injection hR with h1 h2; exact ⟨h1, h2⟩
          clear hR hx hx0 HR1 HR2 HR3 HN
          go_wp2_with fail
          refine HC.mono ?_
          rintro e w1 ⟨rfl, hb⟩
          have HB1 : Hid (Below W.heap.size W w1) := HB.out.trans (hb.mono HB.out.size)
          clear hb HC HB
          go_wp2_with fail
          go_meet
          case rel => exact ⟨rfl, rfl, HB1⟩
      · have ki : ¬ ((k : Int) < (n : Int)) := by omega
        have hR := HR3.out (fun j hj => HF.out j (by omega))
        obtain ⟨rfl, rfl⟩ : R1 = 0 ∧ R2 = 0 := by injection hR with h1 h2; exact ⟨h1, h2⟩
        clear hR HR1 HR2 HR3 HN
        go_wp2_with fail
        go_meet
        case rel => exact ⟨rfl, rfl, HB⟩
  case rest =>
    obtain ⟨rfl, rfl, HB⟩ := hcut
    go_wp2
    rw [Exit.noGoto_ret]
    go_ret2
    exact ⟨rfl, HB.out⟩

set_option maxRecDepth 100000 in
set_option maxHeartbeats 4000000 in
theorem ck_first4 (W : World) (n : Nat) (hn : n ≤ 1000) (p : Nat) (f : Nat → Int) (g : Nat → Nat → Int)
    (hf : ∀ w (k : Nat), Below W.heap.size W w → k < n → Calls Tryd.prog 70 #[.int .i64 (k : Int), Ob.ptr p] w fun e w' => e = .returned (.int .i64 (f k)) ∧ Below w.heap.size w w') (hg : ∀ w (j k : Nat), Below W.heap.size W w → j < k → k < n → Calls Tryd.prog 71 #[.int .i64 (j : Int), .int .i64 (k : Int), Ob.ptr p] w fun e w' => e = .returned (.int .i64 (g j k)) ∧ Below w.heap.size w w') :
    Calls Tryd.prog 62 #[.int .i64 (n : Int), .func (.func 70) #[] #[Ob.ptr p], .func (.func 71) #[] #[Ob.ptr p]] W fun e w' => e = .returned (.tuple #[.int .i64 (Lq.scan (Lq.pr f g) n 0).1, .int .i64 (Lq.scan (Lq.pr f g) n 0).2]) ∧ Below W.heap.size W w' := by
  have HR1 : Hid (∀ k, k < n → (∀ j, j < k → Lq.pr f g j = 0) → f k ≠ 0 → Lq.scan (Lq.pr f g) n 0 = ((k : Int), f k)) := fun k hk h0 h1 => by
    have h2 := Lq.pr_self (g := g) h1
    rw [Lq.scan_some (f := Lq.pr f g) (by rw [h2]; exact h1) (Nat.zero_le _) (by omega) (fun i _ hi => h0 i hi), h2]
  have HR2 : Hid (∀ k j, k < n → j < k → (∀ j, j < k → Lq.pr f g j = 0) → f k = 0 → (∀ i, i < j → g i k = 0) → g j k ≠ 0 → Lq.scan (Lq.pr f g) n 0 = ((k : Int), g j k)) := fun k j hk hj h0 hf0 hi h1 => by
    have h2 := Lq.pr_pair hf0 hi hj h1
    rw [Lq.scan_some (f := Lq.pr f g) (by rw [h2]; exact h1) (Nat.zero_le _) (by omega) (fun i _ hi => h0 i hi), h2]
  have HR3 : Hid ((∀ j, j < n → Lq.pr f g j = 0) → Lq.scan (Lq.pr f g) n 0 = (0, 0)) := fun h => Lq.scan_none (fun j _ hj => h j (by omega))
  have HN : Hid (∀ k, (∀ j, j < k → Lq.pr f g j = 0) → f k = 0 → (∀ i, i < k → g i k = 0) → ∀ j, j < k + 1 → Lq.pr f g j = 0) := fun k h0 h1 h2 => Lq.upto h0 (Lq.pr_none h1 h2)
  have CF : Hid (∀ w (k : Nat) (x : Int), Below W.heap.size W w → k < n → f k = x → Calls Tryd.prog 70 #[.int .i64 (k : Int), Ob.ptr p] w fun e w' => e = .returned (.int .i64 x) ∧ Below w.heap.size w w') := fun w k x hb hk hx => hx ▸ hf w k hb hk
  have CG : Hid (∀ w (j k : Nat) (x : Int), Below W.heap.size W w → j < k → k < n → g j k = x → Calls Tryd.prog 71 #[.int .i64 (j : Int), .int .i64 (k : Int), Ob.ptr p] w fun e w' => e = .returned (.int .i64 x) ∧ Below w.heap.size w w') := fun w j k x hb hj hk hx => hx ▸ hg w j k hb hj hk
  clear hf hg
  generalize Lq.scan (Lq.pr f g) n 0 = R at HR1 HR2 HR3 ⊢
  generalize Lq.pr f g = P at HR1 HR2 HR3 HN
  obtain ⟨R1, R2⟩ := R
  dsimp only
  go_enter Tryd.func62, Tryd.ntmps62
  go_wp2_with fail
  go_step3
  go_wp2_with fail
  go_step3
  go_upto_block 0 with fail
  go_cut [8, 9, 10, 11] from 12 to 34 (fun v8 v9 _v10 _v11 wx => v8 = .int .i64 R1 ∧ v9 = .int .i64 R2 ∧ Hid (Below W.heap.size W wx))
  case first =>
    go_wp2_with fail
    go_loopw [13, 8, 9, 10, 11] (fun vi v8 v9 _v10 _v11 wr => ∃ k : Nat, k ≤ n ∧ vi = .int .i64 (k : Int) ∧ v8 = .int .i64 0 ∧ v9 = .int .i64 0 ∧ Hid (Below W.heap.size W wr) ∧ Hid (∀ j, j < k → P j = 0)) (fun vi _ _ _ _ _ => n - (intOf vi).toNat)
    case atStart => exact ⟨0, Nat.zero_le _, rfl, rfl, rfl, Below.refl _ _, fun j hj => absurd hj (Nat.not_lt_zero _)⟩
    case round =>
      obtain ⟨k, hk, rfl, rfl, rfl, HB, HF⟩ := hrel
      by_cases hlt : k < n
      · have ki : (k : Int) < (n : Int) := by omega
        have kb : (k : Int) < 1000 := by omega
        obtain ⟨x, hx⟩ : ∃ x, f k = x := ⟨_, rfl⟩
        have HC := CF.out wr k x HB.out hlt hx
        by_cases hx0 : x = 0
        · subst hx0
          have HX0 : Hid (f k = 0) := hx
          clear hx
          go_wp2_with fail
          refine HC.mono ?_
          rintro e w1 ⟨rfl, hb⟩
          have HB1 : Hid (Below W.heap.size W w1) := HB.out.trans (hb.mono HB.out.size)
          clear hb HC HB
          go_wp2_with fail
          go_loopw [23, 8, 9, 11] (fun vi v8 v9 _v11 wr => ∃ j : Nat, j ≤ k ∧ vi = .int .i64 (j : Int) ∧ v8 = .int .i64 0 ∧ v9 = .int .i64 0 ∧ Hid (Below W.heap.size W wr) ∧ Hid (∀ i, i < j → g i k = 0)) (fun vi _ _ _ _ => k - (intOf vi).toNat)
          case atStart => exact ⟨0, Nat.zero_le _, rfl, rfl, rfl, HB1, fun j hj => absurd hj (Nat.not_lt_zero _)⟩
          case round =>
            clear HB1
            obtain ⟨j, hj, rfl, rfl, rfl, HB, HG⟩ := hrel
            by_cases hjk : j < k
            · have ji : (j : Int) < (k : Int) := by omega
              have jb : (j : Int) < 1000 := by omega
              obtain ⟨y, hy⟩ : ∃ y, g j k = y := ⟨_, rfl⟩
              have HC := CG.out _ j k y HB.out hjk hlt hy
              by_cases hy0 : y = 0
              · subst hy0
                have HG2 : Hid (∀ i, i < j + 1 → g i k = 0) := Lq.upto (f := fun i => g i k) HG.out hy
                clear hy HG
                go_wp2_with fail
                refine HC.mono ?_
                rintro e w2 ⟨rfl, hb⟩
                have HB2 : Hid (Below W.heap.size W w2) := HB.out.trans (hb.mono HB.out.size)
                clear hb HC HB
                go_wp2_with fail
                go_roundw
                case rel => exact ⟨j + 1, by omega, rfl, rfl, rfl, HB2, HG2⟩
                case measure => simp only [intOf]; omega
              · have hR := HR2.out k j hlt hjk HF.out HX0.out HG.out (by rw [hy]; exact hy0)
                have yb : (y != 0) = true := by simpa [bne] using hy0
                rw [hy] at hR
                obtain ⟨rfl, rfl⟩ : R1 = (k : Int) ∧ R2 = y := by injection hR with h1 h2; exact ⟨h1, h2⟩
                clear hR hy hy0 HR1 HR2 HR3 HN
                go_wp2_with fail
                refine HC.mono ?_
                rintro e w2 ⟨rfl, hb⟩
                have HB2 : Hid (Below W.heap.size W w2) := HB.out.trans (hb.mono HB.out.size)
                clear hb HC HB
                go_wp2_with fail
                go_meet
                case rel => exact ⟨rfl, rfl, HB2⟩
            · have ji : ¬ ((j : Int) < (k : Int)) := by omega
              have HF2 : Hid (∀ j, j < k + 1 → P j = 0) := HN.out k HF.out HX0.out (fun i hi => HG.out i (by omega))
              clear HG
              go_wp2_with fail
              go_roundw
              case rel => exact ⟨k + 1, by omega, rfl, rfl, rfl, HB, HF2⟩
              case measure => simp only [intOf]; omega
        · have hR := HR1.out k hlt HF.out (by rw [hx]; exact hx0)
          have xb : (x != 0) = true := by simpa [bne] using hx0
          rw [hx] at hR
          obtain ⟨rfl, rfl⟩ : R1 = (k : Int) ∧ R2 = x := by injection hR with h1 h2; exact ⟨h1, h2⟩
          clear hR hx hx0 HR1 HR2 HR3 HN
          go_wp2_with fail
          refine HC.mono ?_
          rintro e w1 ⟨rfl, hb⟩
          have HB1 : Hid (Below W.heap.size W w1) := HB.out.trans (hb.mono HB.out.size)
          clear hb HC HB
          go_wp2_with fail
          go_meet
          case rel => exact ⟨rfl, rfl, HB1⟩
      · have ki : ¬ ((k : Int) < (n : Int)) := by omega
        have hR := HR3.out (fun j hj => HF.out j (by omega))
        obtain ⟨rfl, rfl⟩ : R1 = 0 ∧ R2 = 0 := by injection hR with h1 h2; exact ⟨h1, h2⟩
        clear hR HR1 HR2 HR3 HN
        go_wp2_with fail
        go_meet
        case rel => exact ⟨rfl, rfl, HB⟩
  case rest =>
    obtain ⟨rfl, rfl, HB⟩ := hcut
    go_wp2
    rw [Exit.noGoto_ret]
    go_ret2
    exact ⟨rfl, HB.out⟩

set_option maxRecDepth 100000 in
set_option maxHeartbeats 4000000 in
theorem ck_first5 (W : World) (n : Nat) (hn : n ≤ 1000) (p q : Nat) (f : Nat → Int) (g : Nat → Nat → Int)
    (hf : ∀ w (k : Nat), Below W.heap.size W w → k < n → Calls Tryd.prog 72 #[.int .i64 (k : Int), Ob.ptr p, Ob.ptr q] w fun e w' => e = .returned (.int .i64 (f k)) ∧ Below w.heap.size w w') (hg : ∀ w (j k : Nat), Below W.heap.size W w → j < k → k < n → Calls Tryd.prog 75 #[.int .i64 (j : Int), .int .i64 (k : Int), Ob.ptr p] w fun e w' => e = .returned (.int .i64 (g j k)) ∧ Below w.heap.size w w') :
    Calls Tryd.prog 62 #[.int .i64 (n : Int), .func (.func 72) #[] #[Ob.ptr p, Ob.ptr q], .func (.func 75) #[] #[Ob.ptr p]] W fun e w' => e = .returned (.tuple #[.int .i64 (Lq.scan (Lq.pr f g) n 0).1, .int .i64 (Lq.scan (Lq.pr f g) n 0).2]) ∧ Below W.heap.size W w' := by
  have HR1 : Hid (∀ k, k < n → (∀ j, j < k → Lq.pr f g j = 0) → f k ≠ 0 → Lq.scan (Lq.pr f g) n 0 = ((k : Int), f k)) := fun k hk h0 h1 => by
    have h2 := Lq.pr_self (g := g) h1
    rw [Lq.scan_some (f := Lq.pr f g) (by rw [h2]; exact h1) (Nat.zero_le _) (by omega) (fun i _ hi => h0 i hi), h2]
  have HR2 : Hid (∀ k j, k < n → j < k → (∀ j, j < k → Lq.pr f g j = 0) → f k = 0 → (∀ i, i < j → g i k = 0) → g j k ≠ 0 → Lq.scan (Lq.pr f g) n 0 = ((k : Int), g j k)) := fun k j hk hj h0 hf0 hi h1 => by
    have h2 := Lq.pr_pair hf0 hi hj h1
    rw [Lq.scan_some (f := Lq.pr f g) (by rw [h2]; exact h1) (Nat.zero_le _) (by omega) (fun i _ hi => h0 i hi), h2]
  have HR3 : Hid ((∀ j, j < n → Lq.pr f g j = 0) → Lq.scan (Lq.pr f g) n 0 = (0, 0)) := fun h => Lq.scan_none (fun j _ hj => h j (by omega))
  have HN : Hid (∀ k, (∀ j, j < k → Lq.pr f g j = 0) → f k = 0 → (∀ i, i < k → g i k = 0) → ∀ j, j < k + 1 → Lq.pr f g j = 0) := fun k h0 h1 h2 => Lq.upto h0 (Lq.pr_none h1 h2)
  have CF : Hid (∀ w (k : Nat) (x : Int), Below W.heap.size W w → k < n → f k = x → Calls Tryd.prog 72 #[.int .i64 (k : Int), Ob.ptr p, Ob.ptr q] w fun e w' => e = .returned (.int .i64 x) ∧ Below w.heap.size w w') := fun w k x hb hk hx => hx ▸ hf w k hb hk
  have CG : Hid (∀ w (j k : Nat) (x : Int), Below W.heap.size W w → j < k → k < n → g j k = x → Calls Tryd.prog 75 #[.int .i64 (j : Int), .int .i64 (k : Int), Ob.ptr p] w fun e w' => e = .returned (.int .i64 x) ∧ Below w.heap.size w w') := fun w j k x hb hj hk hx => hx ▸ hg w j k hb hj hk
  clear hf hg
  generalize Lq.scan (Lq.pr f g) n 0 = R at HR1 HR2 HR3 ⊢
  generalize Lq.pr f g = P at HR1 HR2 HR3 HN
  obtain ⟨R1, R2⟩ := R
  dsimp only
  go_enter Tryd.func62, Tryd.ntmps62
  go_wp2_with fail
  go_step3
  go_wp2_with fail
  go_step3
  go_upto_block 0 with fail
  go_cut [8, 9, 10, 11] from 12 to 34 (fun v8 v9 _v10 _v11 wx => v8 = .int .i64 R1 ∧ v9 = .int .i64 R2 ∧ Hid (Below W.heap.size W wx))
  case first =>
    go_wp2_with fail
    go_loopw [13, 8, 9, 10, 11] (fun vi v8 v9 _v10 _v11 wr => ∃ k : Nat, k ≤ n ∧ vi = .int .i64 (k : Int) ∧ v8 = .int .i64 0 ∧ v9 = .int .i64 0 ∧ Hid (Below W.heap.size W wr) ∧ Hid (∀ j, j < k → P j = 0)) (fun vi _ _ _ _ _ => n - (intOf vi).toNat)
    case atStart => exact ⟨0, Nat.zero_le _, rfl, rfl, rfl, Below.refl _ _, fun j hj => absurd hj (Nat.not_lt_zero _)⟩
    case round =>
      obtain ⟨k, hk, rfl, rfl, rfl, HB, HF⟩ := hrel
      by_cases hlt : k < n
      · have ki : (k : Int) < (n : Int) := by omega
        have kb : (k : Int) < 1000 := by omega
        obtain ⟨x, hx⟩ : ∃ x, f k = x := ⟨_, rfl⟩
        have HC := CF.out wr k x HB.out hlt hx
        by_cases hx0 : x = 0
        · subst hx0
          have HX0 : Hid (f k = 0) := hx
          clear hx
          go_wp2_with fail
          refine HC.mono ?_
          rintro e w1 ⟨rfl, hb⟩
          have HB1 : Hid (Below W.heap.size W w1) := HB.out.trans (hb.mono HB.out.size)
          clear hb HC HB
          go_wp2_with fail
          go_loopw [23, 8, 9, 11] (fun vi v8 v9 _v11 wr => ∃ j : Nat, j ≤ k ∧ vi = .int .i64 (j : Int) ∧ v8 = .int .i64 0 ∧ v9 = .int .i64 0 ∧ Hid (Below W.heap.size W wr) ∧ Hid (∀ i, i < j → g i k = 0)) (fun vi _ _ _ _ => k - (intOf vi).toNat)
          case atStart => exact ⟨0, Nat.zero_le _, rfl, rfl, rfl, HB1, fun j hj => absurd hj (Nat.not_lt_zero _)⟩
          case round =>
            clear HB1
            obtain ⟨j, hj, rfl, rfl, rfl, HB, HG⟩ := hrel
            by_cases hjk : j < k
            · have ji : (j : Int) < (k : Int) := by omega
              have jb : (j : Int) < 1000 := by omega
              obtain ⟨y, hy⟩ : ∃ y, g j k = y := ⟨_, rfl⟩
              have HC := CG.out _ j k y HB.out hjk hlt hy
              by_cases hy0 : y = 0
              · subst hy0
                have HG2 : Hid (∀ i, i < j + 1 → g i k = 0) := Lq.upto (f := fun i => g i k) HG.out hy
                clear hy HG
                go_wp2_with fail
                refine HC.mono ?_
                rintro e w2 ⟨rfl, hb⟩
                have HB2 : Hid (Below W.heap.size W w2) := HB.out.trans (hb.mono HB.out.size)
                clear hb HC HB
                go_wp2_with fail
                go_roundw
                case rel => exact ⟨j + 1, by omega, rfl, rfl, rfl, HB2, HG2⟩
                case measure => simp only [intOf]; omega
              · have hR := HR2.out k j hlt hjk HF.out HX0.out HG.out (by rw [hy]; exact hy0)
                have yb : (y != 0) = true := by simpa [bne] using hy0
                rw [hy] at hR
                obtain ⟨rfl, rfl⟩ : R1 = (k : Int) ∧ R2 = y := by injection hR with h1 h2; exact ⟨h1, h2⟩
                clear hR hy hy0 HR1 HR2 HR3 HN
                go_wp2_with fail
                refine HC.mono ?_
                rintro e w2 ⟨rfl, hb⟩
                have HB2 : Hid (Below W.heap.size W w2) := HB.out.trans (hb.mono HB.out.size)
                clear hb HC HB
                go_wp2_with fail
                go_meet
                case rel => exact ⟨rfl, rfl, HB2⟩
            · have ji : ¬ ((j : Int) < (k : Int)) := by omega
              have HF2 : Hid (∀ j, j < k + 1 → P j = 0) := HN.out k HF.out HX0.out (fun i hi => HG.out i (by omega))
              clear HG
              go_wp2_with fail
              go_roundw
              case rel => exact ⟨k + 1, by omega, rfl, rfl, rfl, HB, HF2⟩
              case measure => simp only [intOf]; omega
        · have hR := HR1.out k hlt HF.out (by rw [hx]; exact hx0)
          have xb : (x != 0) = true := by simpa [bne] using hx0
          rw [hx] at hR
          obtain ⟨rfl, rfl⟩ : R1 = (k : Int) ∧ R2 = x := by injection hR with h1 h2; exact ⟨h1, h2⟩
          clear hR hx hx0 HR1 HR2 HR3 HN
          go_wp2_with fail
          refine HC.mono ?_
          rintro e w1 ⟨rfl, hb⟩
          have HB1 : Hid (Below W.heap.size W w1) := HB.out.trans (hb.mono HB.out.size)
          clear hb HC HB
          go_wp2_with fail
          go_meet
          case rel => exact ⟨rfl, rfl, HB1⟩
      · have ki : ¬ ((k : Int) < (n : Int)) := by omega
        have hR := HR3.out (fun j hj => HF.out j (by omega))
        obtain ⟨rfl, rfl⟩ : R1 = 0 ∧ R2 = 0 := by injection hR with h1 h2; exact ⟨h1, h2⟩
        clear hR HR1 HR2 HR3 HN
        go_wp2_with fail
        go_meet
        case rel => exact ⟨rfl, rfl, HB⟩
  case rest =>
    obtain ⟨rfl, rfl, HB⟩ := hcut
    go_wp2
    rw [Exit.noGoto_ret]
    go_ret2
    exact ⟨rfl, HB.out⟩

end Go.Proofs.YtnbfnipdiffphaaDoor
