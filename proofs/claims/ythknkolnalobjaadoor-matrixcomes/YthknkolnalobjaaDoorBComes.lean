/- MatrixComes: a cycle comes again after as many as it says, and in no other one; for every three integers; no condition. -/
import Derived.Test.YthknkolnalobjaaDoorB4
import Derived.Test.YthknkolnalobjaaDoorB1
import Derived.ProofKit
import Derived.OpenShut
namespace Go.Proofs.YthknkolnalobjaaDoor.matrixComes
open Go.ChangeShapes Go.WideShapes Go.ChangeAt Go.RowKit
set_option linter.unusedVariables false
variable {Q : World → Prop}
theorem comes_in {c r i : Int} (hr : 1 ≤ r) (hc : 0 ≤ c) (h0 : 0 ≤ i) (hi : i < r) : Mx.comes c r (c + i) = (i == 0) := by
  have h1 : (c + i - c) % r = i := by rw [show c + i - c = i by omega]; exact Int.emod_eq_of_lt h0 hi
  unfold Mx.comes
  rw [h1, decide_eq_true (by omega : 0 < r), decide_eq_true hc, decide_eq_true (by omega : c ≤ c + i)]
  simp
theorem comes_not {c r : Int} : Mx.comes c r (c - 1) = false := by
  unfold Mx.comes
  rw [decide_eq_false (by omega : ¬ c ≤ c - 1)]
  simp
set_option maxRecDepth 100000 in
set_option maxHeartbeats 4000000 in
theorem walkA (hQ : ∀ w w', Q w → Below w.heap.size w w' → Q w') (S : MatSpec Q) (a0 : Int) (w0 : (Lit.int .i64 a0).wf = true) (a1 : Int) (w1 : (Lit.int .i64 a1).wf = true) (a2 : Int) (w2 : (Lit.int .i64 a2).wf = true) (W : World) (hW : Q W) :
    Calls Tryd.prog 4 #[.int .i64 a0, .int .i64 a1, .int .i64 a2] W fun e w' => e = .returned (.bool true) ∧ Below W.heap.size W w' := by
  have hk := known12_any hQ S W hW
  have HQ : Hid (∀ w, Below W.heap.size W w → Q w) := fun w hb => hQ W w hW hb
  have HC : Hid (∀ w x, Below W.heap.size W w → (Lit.int .i64 x).wf = true → Calls Tryd.prog 21 #[.int .i64 a0, .int .i64 a1, .int .i64 x] w fun e w' => e = .returned (.bool (Mx.comes a0 a1 x)) ∧ Below w.heap.size w w') := fun w x hb hx => S.comes w a0 a1 x (HQ.out _ hb) w0 w1 hx
  have HR : Hid (∀ w, Calls Tryd.prog 22 #[.int .i64 a0, .int .i64 a1, .int .i64 a2] w fun e w' => e = .returned (.bool (Mx.comes a0 a1 a2)) ∧ w' = w) := fun w => rcomes_any w a0 a1 a2 w0 w2
  have HW : Hid ((Lit.int .i64 a0).wf = true ∧ (Lit.int .i64 a2).wf = true) := ⟨w0, w2⟩
  clear hW hQ w0 w1 w2
  go_enter Tryd.func4, Tryd.ntmps4
  go_wp2_with fail
  refine hk.mono ?_
  rintro e wa ⟨rfl, hb1⟩
  have hA : Hid (Below W.heap.size W wa) := hb1
  clear hk hb1
  go_wp2_with fail
  refine (HC.out _ _ hA.out HW.out.2).mono ?_
  rintro e wb ⟨rfl, hb'⟩
  replace hA : Hid (Below W.heap.size W wb) := hA.out.trans (hb'.mono hA.out.size)
  clear hb'
  go_wp2_with fail
  refine (HR.out _).mono ?_
  rintro e wc ⟨rfl, hw⟩
  rw [hw]
  clear hw
  generalize Mx.comes a0 a1 a2 = cc
  by_cases h1 : a1 < 1
  · go_wp2
    go_ret
    exact ⟨rfl, hA.out⟩
  by_cases h2 : 1000 < a1
  · go_wp2
    go_ret
    exact ⟨rfl, hA.out⟩
  by_cases h3 : a0 < 0
  · go_wp2
    go_ret
    exact ⟨rfl, hA.out⟩
  by_cases h4 : 1000 < a0
  · go_wp2
    go_ret
    exact ⟨rfl, hA.out⟩
  obtain ⟨C, rfl⟩ := Int.eq_ofNat_of_zero_le (show 0 ≤ a0 by omega)
  obtain ⟨R, rfl⟩ := Int.eq_ofNat_of_zero_le (show 0 ≤ a1 by omega)
  have HI : Hid (∀ i : Nat, i < R → Mx.comes (C : Int) (R : Int) ((C : Int) + (i : Int)) = ((i : Int) == 0)) := fun i hi => comes_in (by omega) (by omega) (by omega) (by omega)
  have HI0 : Hid (Mx.comes (C : Int) (R : Int) (C : Int) = true) := by
    have := HI.out 0 (by omega)
    show Mx.comes (C : Int) (R : Int) (C : Int) = true
    simpa using this
  have HIn : Hid (Mx.comes (C : Int) (R : Int) ((C : Int) - 1) = false) := comes_not
  have HB : Hid (C ≤ 1000 ∧ R ≤ 1000 ∧ 1 ≤ R) := ⟨by omega, by omega, by omega⟩
  have c1 : (C : Int) ≤ 1000 := by omega
  have r1 : (R : Int) ≤ 1000 := by omega
  go_wp2_with fail
  go_loopw [7, 8] (fun vn i wr => ∃ k : Nat, k ≤ R ∧ vn = .int .i64 (if k = 0 then 0 else 1) ∧ i = .int .i64 k ∧ Hid (Below W.heap.size W wr)) (fun _ i _ => R - (intOf i).toNat)
  case atStart => exact ⟨0, Nat.zero_le _, rfl, rfl, hA⟩
  case round =>
    clear hA
    obtain ⟨k, hk, rfl, rfl, hA⟩ := hrel
    by_cases hlt : k < R
    · have hwf : (Lit.int .i64 ((C : Int) + (k : Int))).wf = true := WalkArith.wf_i64 ⟨by omega, by have := HB.out; omega⟩
      have hcm := HI.out k hlt
      have k1 : (k : Int) ≤ 1000 := by have := HB.out; omega
      by_cases h0 : k = 0
      · subst h0
        have HH : Hid (∀ w, Below W.heap.size W w → Calls Tryd.prog 21 #[.int .i64 (C : Int), .int .i64 (R : Int), .int .i64 (C : Int)] w fun e w' => e = .returned (.bool true) ∧ Below w.heap.size w w') := fun w hb => by
          have := HC.out w (C : Int) hb HW.out.1
          rwa [HI0.out] at this
        clear hcm hwf
        go_wp2_with fail
        refine (HH.out _ hA.out).mono ?_
        rintro e wd ⟨rfl, hb'⟩
        replace hA : Hid (Below W.heap.size W wd) := hA.out.trans (hb'.mono hA.out.size)
        clear hb'
        go_wp2
        exact ⟨⟨1, by omega, by simp, by simp, hA⟩, by simp [intOf]; omega⟩
      · have hz : ((k : Int) == 0) = false := beq_eq_false_iff_ne.2 (by omega)
        have HH : Hid (∀ w, Below W.heap.size W w → Calls Tryd.prog 21 #[.int .i64 (C : Int), .int .i64 (R : Int), .int .i64 ((C : Int) + (k : Int))] w fun e w' => e = .returned (.bool false) ∧ Below w.heap.size w w') := fun w hb => by
          have := HC.out w _ hb hwf
          rwa [hcm, hz] at this
        clear hcm hwf hz
        go_wp2_with fail
        refine (HH.out _ hA.out).mono ?_
        rintro e wd ⟨rfl, hb'⟩
        replace hA : Hid (Below W.heap.size W wd) := hA.out.trans (hb'.mono hA.out.size)
        clear hb'
        go_wp2
        exact ⟨⟨k + 1, by omega, by simp [h0], by simp, hA⟩, by simp [intOf]; omega⟩
    · have hkl : ¬ k = 0 := by have := HB.out; omega
      have HH : Hid (∀ w, Below W.heap.size W w → Calls Tryd.prog 21 #[.int .i64 (C : Int), .int .i64 (R : Int), .int .i64 (C : Int)] w fun e w' => e = .returned (.bool true) ∧ Below w.heap.size w w') := fun w hb => by
        have := HC.out w (C : Int) hb HW.out.1
        rwa [HI0.out] at this
      have HG : Hid (∀ w, Below W.heap.size W w → Calls Tryd.prog 21 #[.int .i64 (C : Int), .int .i64 (R : Int), .int .i64 ((C : Int) - 1)] w fun e w' => e = .returned (.bool false) ∧ Below w.heap.size w w') := fun w hb => by
        have := HC.out w ((C : Int) - 1) hb (WalkArith.wf_i64 ⟨by omega, by omega⟩)
        rwa [HIn.out] at this
      have hif : (if k = 0 then (0 : Int) else 1) = 1 := if_neg hkl
      rw [hif]
      clear hif
      go_wp2_with fail
      refine (HH.out _ hA.out).mono ?_
      rintro e wd ⟨rfl, hb'⟩
      replace hA : Hid (Below W.heap.size W wd) := hA.out.trans (hb'.mono hA.out.size)
      clear hb'
      go_wp2_with fail
      refine (HG.out _ hA.out).mono ?_
      rintro e we ⟨rfl, hb'⟩
      replace hA : Hid (Below W.heap.size W we) := hA.out.trans (hb'.mono hA.out.size)
      clear hb'
      go_wp2
      go_ret
      exact ⟨rfl, hA.out⟩
end Go.Proofs.YthknkolnalobjaaDoor.matrixComes
