/- ClockRates: a slower rate makes units longer by just so much; what is beyond an eighth is not taken; no condition. -/
import Derived.Test.YtjjahfmjiinpcaaC2
import Derived.Test.YtjjahfmjiinpcaaU2
import Derived.Deep.Cut
import Derived.ProofKit
import Derived.OpenShut
namespace Go.Proofs.Ytjjahfmjiinpcaa.clockRates
open Go.ChangeShapes Go.WideShapes Go.ChangeAt Go.RowKit
set_option linter.unusedVariables false
variable {At : Ob.A Ck.St}
set_option maxRecDepth 100000 in
set_option maxHeartbeats 2000000 in
theorem walkN (S : ClockSpec At) (a n : Nat) (b : Int) (ha : a < 256) (b1 : -128 ≤ b) (b2 : b ≤ 127) (hn : n < 65536) (W : World) :
    Calls Try.prog 6 #[.int .u8 (a : Int), .int .i8 b, .int .u16 (n : Int)] W fun e w' => e = .returned (.bool true) ∧ Below W.heap.size W w' := by
  have hk := known9_any S W
  obtain ⟨U, hU⟩ : ∃ U : Nat, (a : Int) % 64 = (U : Int) := ⟨a % 64, by omega⟩
  obtain ⟨N, hN⟩ : ∃ N : Nat, (n : Int) % 3000 = (N : Int) := ⟨n % 3000, by omega⟩
  have u1 : U < 64 := by omega
  have n1 : N < 3000 := by omega
  obtain ⟨C, hC⟩ : ∃ C : Int, b * ((U : Int) + 1) = C := ⟨_, rfl⟩
  have c1 : -128 * ((U : Int) + 1) ≤ C := by rw [← hC]; exact Int.mul_le_mul_of_nonneg_right b1 (by omega)
  have c2 : C ≤ 127 * ((U : Int) + 1) := by rw [← hC]; exact Int.mul_le_mul_of_nonneg_right b2 (by omega)
  obtain ⟨D, hD⟩ : ∃ D : Int, C.tdiv 4 = D := ⟨_, rfl⟩
  have d1 : -32 * ((U : Int) + 1) ≤ D ∧ D ≤ 32 * ((U : Int) + 1) := by
    rw [← hD]
    by_cases h : 0 ≤ C
    · rw [Int.tdiv_eq_ediv_of_nonneg h]; omega
    · have e : C = -(-C) := by omega
      rw [e, Int.neg_tdiv, Int.tdiv_eq_ediv_of_nonneg (by omega)]; omega
  obtain ⟨d1, d2⟩ := d1
  obtain ⟨M, hM⟩ : ∃ M : Nat, 256 * ((U : Int) + 1) + D = (M : Int) := ⟨(256 * ((U : Int) + 1) + D).toNat, by omega⟩
  have m1 : 224 * (U + 1) ≤ M := by omega
  have m2 : M ≤ 288 * (U + 1) := by omega
  obtain ⟨Q, hQ⟩ : ∃ Q, N * 256 / M = Q := ⟨_, rfl⟩
  obtain ⟨R, hR⟩ : ∃ R, N * 256 % M = R := ⟨_, rfl⟩
  have hQ1 : Q ≤ 3000 * 256 := by rw [← hQ]; exact Nat.le_trans (Nat.div_le_self _ _) (by omega)
  have q1 : ((N : Int) * 256).tdiv (M : Int) = (Q : Int) := by rw [Int.tdiv_eq_ediv_of_nonneg (by omega), ← hQ]; simp
  have r1 : ((N : Int) * 256).tmod (M : Int) = (R : Int) := by rw [Int.tmod_eq_emod_of_nonneg (by omega), ← hR]; simp
  have HE : Hid (Ck.st M (U + 1) N = ⟨Q, R, M, U + 1⟩) := by show _ = _; unfold Ck.st; rw [hQ, hR]
  have HN0 : Hid (∀ w, Ob.Makes Try.prog At 10 #[.int .i64 ((U : Int) + 1)] w (Ck.st (256 * (U + 1)) (U + 1) 0)) := fun w => by
    have h := S.new w ((U : Int) + 1) (WalkArith.wf_i64 ⟨by omega, by omega⟩)
    rw [show ((U : Int) + 1) = ((U + 1 : Nat) : Int) from by simp, Ck.st_new (U + 1) (by omega) (by omega)] at h
    exact h
  have hmay : Ck.may (Ck.st (256 * (U + 1)) (U + 1) 0) (M : Int) 256 = true := by
    show decide (_ ∧ 224 * ((U + 1 : Nat) : Int) ≤ (M : Int) ∧ (M : Int) ≤ 288 * ((U + 1 : Nat) : Int)) = true
    exact decide_eq_true ⟨rfl, by omega, by omega⟩
  have HSr : Hid (∀ w p F, At w p F (Ck.st (256 * (U + 1)) (U + 1) 0) → Ob.Turns Try.prog At 12 #[Ob.ptr p, .int .i64 (M : Int), .int .i64 256] w p F (Ck.st M (U + 1) 0) (.bool true)) := fun w p F h => by
    have h2 := S.setRate w p F _ (M : Int) 256 (WalkArith.wf_i64 ⟨by omega, by omega⟩) rfl h
    rw [hmay, show Ck.setRate (Ck.st (256 * (U + 1)) (U + 1) 0) (M : Int) 256 = Ck.st M (U + 1) 0 from by unfold Ck.setRate; rw [hmay]; simp [Ck.set, Ck.st]] at h2
    exact h2
  have HTk : Hid (∀ i, i < N → Ck.tick (Ck.st M (U + 1) i) 1 = Ck.st M (U + 1) (i + 1)) := fun i hi => by
    have h := Ck.st_tick M (U + 1) i 1 (by omega) (by decide) (Nat.lt_of_le_of_lt (Nat.div_le_div_left (show 224 ≤ M by omega) (by decide)) (by omega))
    exact h
  have hQ2 : Q < 65536 := by rw [← hQ]; exact Nat.lt_of_le_of_lt (Nat.div_le_div_left (show 224 ≤ M by omega) (by decide)) (by omega)
  clear hQ hR hmay hQ1
  go_enter Try.func6, Try.ntmps6
  go_wp2_with fail
  refine hk.mono ?_
  rintro e w1 ⟨rfl, hb1⟩
  have hA : Hid (Below W.heap.size W w1) := hb1
  clear hk hb1
  go_wp2_with fail
  refine (Ob.own_new (B := W.heap.size) (HN0.out _) hA.out.size).mono ?_
  rintro e w' ⟨p, rfl, O', hb'⟩
  replace hA : Hid (Below W.heap.size W w') := hA.out.trans hb'
  have OB : Hid (Ob.Own At W.heap.size w' p (_)) := O'
  clear O' hb'
  go_wp2_with fail
  refine (Ob.own_turn (fun F h => HSr.out _ _ F h) OB.out hA.out.size).mono ?_
  rintro e w' ⟨rfl, O', hb'⟩
  replace hA : Hid (Below W.heap.size W w') := hA.out.trans hb'
  replace OB : Hid (Ob.Own At W.heap.size w' _ (_)) := O'
  clear O' hb'
  have f1 : (D ≤ 32 * ((U : Int) + 1)) = True := eq_true d2
  have f2 : (-32 * ((U : Int) + 1) ≤ D) = True := eq_true d1
  go_upto_region 12 with fail
  go_cut [12] from 14 (fun v wx => v = .int .i64 (N : Int) ∧ wx = w' ∧ Hid (Ob.Own At W.heap.size wx p (Ck.st M (U + 1) 0)) ∧ Hid (Below W.heap.size W wx))
  case first =>
    go_wp2
    go_meet
    case rel => exact ⟨rfl, rfl, OB, hA⟩
  case rest =>
  obtain ⟨rfl, rfl, OB', hA'⟩ := hcut
  clear OB' hA'
  go_wp2_with fail
  go_loopw [13] (fun i wr => ∃ k : Nat, k ≤ N ∧ i = .int .i64 k ∧ Hid (Ob.Own At W.heap.size wr p (Ck.st M (U + 1) k)) ∧ Hid (Below W.heap.size W wr)) (fun i _ => N - (intOf i).toNat)
  case atStart => exact ⟨0, Nat.zero_le _, rfl, OB, hA⟩
  case round =>
    clear OB hA
    obtain ⟨k, hk, rfl, OB, hA⟩ := hrel
    by_cases hlt : k < N
    · skip
      go_wp2_with fail
      refine (Ob.own_turn (fun F h => S.tick _ _ F _ 1 rfl h) OB.out hA.out.size).mono ?_
      rintro e w' ⟨rfl, O', hb'⟩
      replace hA : Hid (Below W.heap.size W w') := hA.out.trans hb'
      replace OB : Hid (Ob.Own At W.heap.size w' _ (_)) := O'
      clear O' hb'
      rw [HTk.out k hlt] at OB
      go_wp2
      exact ⟨⟨k + 1, by omega, by simp, OB, hA⟩, by simp [intOf]; omega⟩
    · have hkN : k = N := by omega
      rw [hkN, HE.out] at OB
      clear hkN HTk HN0 HE HSr
      have HTm : Hid (∀ w', Below wr.heap.size wr w' → Calls Try.prog 18 #[Ob.ptr p] w' fun e w'' => e = .returned (.int .u16 (Q : Int)) ∧ Below w'.heap.size w' w'') := fun w' hb => by
        obtain ⟨F, h, _⟩ := OB.out.on S.is hb
        exact S.time _ _ F _ h
      have HPt : Hid (∀ w', Below wr.heap.size wr w' → Calls Try.prog 19 #[Ob.ptr p] w' fun e w'' => e = .returned (.int .i64 (R : Int)) ∧ Below w'.heap.size w' w'') := fun w' hb => by
        obtain ⟨F, h, _⟩ := OB.out.on S.is hb
        exact S.part _ _ F _ h
      clear OB
      go_wp2_with fail
      refine Lw.wp_region_quiet_below (by kernel_rfl) (by kernel_rfl) ?_
      repeat (first
        | go_big_quiet_skip
        | (go_big_quiet_want; go_big_quiet_op; go_big_quiet_on)
        | (go_big_quiet_want; go_big_quiet_op; apply Exists.intro; refine ⟨fun _ hb' => ?_, ?_⟩; (first
          | exact Lw.val_rfl _
          | (go_at_call 18; exact Lw.calls_below hb' (HTm.out _ hb'))
          | (go_at_call 19; exact Lw.calls_below hb' (HPt.out _ hb'))
          | (simp [go_sem, q1]; rfl)
          | (simp [go_sem, r1]; rfl)); go_big_quiet_on))
      refine wpQuiet_nil ?_
      intro w9 hb9
      replace hA : Hid (Below W.heap.size W w9) := hA.out.trans (hb9.mono hA.out.size)
      clear hb9
      go_wp2
      go_ret
      exact ⟨by simp, hA.out⟩
theorem walkA (S : ClockSpec At) (a0 : Int) (w0 : (Lit.int .u8 a0).wf = true) (a1 : Int) (w1 : (Lit.int .i8 a1).wf = true) (a2 : Int) (w2 : (Lit.int .u16 a2).wf = true) (W : World) :
    Calls Try.prog 6 #[.int .u8 a0, .int .i8 a1, .int .u16 a2] W fun e w' => e = .returned (.bool true) ∧ Below W.heap.size W w' := by
  obtain ⟨h1, h2⟩ := bounds_u8 w0
  obtain ⟨h3, h4⟩ := bounds_i8 w1
  obtain ⟨h5, h6⟩ := bounds_u16 w2
  obtain ⟨a, rfl⟩ := Int.eq_ofNat_of_zero_le h1
  obtain ⟨c, rfl⟩ := Int.eq_ofNat_of_zero_le h5
  exact walkN S a c a1 (by omega) (by omega) (by omega) (by omega) W
end Go.Proofs.Ytjjahfmjiinpcaa.clockRates
