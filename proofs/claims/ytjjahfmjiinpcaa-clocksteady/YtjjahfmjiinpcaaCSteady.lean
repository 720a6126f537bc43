/- ClockSteady: so many ticks a bit time make as many units as they must, whatever the bits; no condition. -/
import Derived.Test.YtjjahfmjiinpcaaC2
import Derived.Test.YtjjahfmjiinpcaaU2
import Derived.ProofKit
import Derived.OpenShut
namespace Go.Proofs.Ytjjahfmjiinpcaa.clockSteady
open Go.ChangeShapes Go.WideShapes Go.ChangeAt Go.RowKit
set_option linter.unusedVariables false
variable {At : Ob.A Ck.St}
theorem st_end (u S : Nat) (hu : 0 < u) : Ck.st (256 * u) u S = ⟨S / u, S % u * 256, 256 * u, u⟩ := by
  unfold Ck.st
  rw [Nat.mul_comm 256 u, Nat.mul_div_mul_right _ _ (by decide : 0 < 256), Nat.mul_mod_mul_right]
set_option maxRecDepth 100000 in
set_option maxHeartbeats 2000000 in
theorem walkN (S : ClockSpec At) (a b n : Nat) (ha : a < 256) (hb : b < 256) (hn : n < 65536) (W : World) :
    Calls Try.prog 7 #[.int .u8 (a : Int), .int .u8 (b : Int), .int .u16 (n : Int)] W fun e w' => e = .returned (.bool true) ∧ Below W.heap.size W w' := by
  have hk := known9_any S W
  obtain ⟨U, hU⟩ : ∃ U : Nat, (a : Int) % 64 = (U : Int) := ⟨a % 64, by omega⟩
  obtain ⟨K, hK⟩ : ∃ K : Nat, (b : Int) % 9 = (K : Int) := ⟨b % 9, by omega⟩
  obtain ⟨N, hN⟩ : ∃ N : Nat, (n : Int) % 3000 = (N : Int) := ⟨n % 3000, by omega⟩
  have hU' : (a : Int).tmod 64 = (U : Int) := by rw [Int.tmod_eq_emod_of_nonneg (by omega)]; exact hU
  have hK' : (b : Int).tmod 9 = (K : Int) := by rw [Int.tmod_eq_emod_of_nonneg (by omega)]; exact hK
  have hN' : (n : Int).tmod 3000 = (N : Int) := by rw [Int.tmod_eq_emod_of_nonneg (by omega)]; exact hN
  have u1 : U < 64 := by omega
  have k1 : K ≤ 8 := by omega
  have n1 : N < 3000 := by omega
  have hNK : N * K ≤ 24000 := Nat.le_trans (Nat.mul_le_mul (Nat.le_of_lt n1) k1) (by decide)
  obtain ⟨Q, hQ⟩ : ∃ Q, N * K / (U + 1) = Q := ⟨_, rfl⟩
  obtain ⟨R, hR⟩ : ∃ R, N * K % (U + 1) = R := ⟨_, rfl⟩
  obtain ⟨T, hT⟩ : ∃ T, N * K = T := ⟨_, rfl⟩
  have hQ1 : Q ≤ 24000 := by rw [← hQ]; exact Nat.le_trans (Nat.div_le_self _ _) hNK
  have hR1 : R < 64 := by rw [← hR]; exact Nat.lt_of_lt_of_le (Nat.mod_lt _ (by omega)) (by omega)
  have t0 : (N : Int) * (K : Int) = (T : Int) := by rw [← hT]; simp
  have t1 : T ≤ 24000 := by omega
  have q1 : (T : Int).tdiv ((U : Int) + 1) = (Q : Int) := by rw [Int.tdiv_eq_ediv_of_nonneg (by omega), ← hQ, hT]; simp
  have r1 : (T : Int).tmod ((U : Int) + 1) = (R : Int) := by rw [Int.tmod_eq_emod_of_nonneg (by omega), ← hR, hT]; simp
  have HE : Hid (Ck.st (256 * (U + 1)) (U + 1) (N * K) = ⟨Q, R * 256, 256 * (U + 1), U + 1⟩) := by show _ = _; rw [st_end _ _ (by omega), hQ, hR]
  have HN0 : Hid (∀ w, Ob.Makes Try.prog At 10 #[.int .i64 ((U : Int) + 1)] w (Ck.st (256 * (U + 1)) (U + 1) (0 * K))) := fun w => by
    have h := S.new w ((U : Int) + 1) (WalkArith.wf_i64 ⟨by omega, by omega⟩)
    rw [show ((U : Int) + 1) = ((U + 1 : Nat) : Int) from by simp, Ck.st_new (U + 1) (by omega) (by omega)] at h
    rw [Nat.zero_mul]
    exact h
  have HTk : Hid (∀ i, i < N → Ck.tick (Ck.st (256 * (U + 1)) (U + 1) (i * K)) (K : Int) = Ck.st (256 * (U + 1)) (U + 1) ((i + 1) * K)) := fun i hi => by
    have e : (i + 1) * K = i * K + K := Nat.succ_mul i K
    rw [e, Ck.st_tick _ _ _ _ (by omega) k1]
    have h1 : i * K + K ≤ 24000 := by
      have : (i + 1) * K ≤ N * K := Nat.mul_le_mul_right _ hi
      rw [e] at this
      omega
    rw [Nat.mul_comm 256 (U + 1), Nat.mul_div_mul_right _ _ (by decide : 0 < 256)]
    exact Nat.lt_of_le_of_lt (Nat.div_le_self _ _) (by omega)
  have HW : Hid ((Lit.int .i64 (K : Int)).wf = true) := WalkArith.wf_i64 ⟨by omega, by omega⟩
  clear hQ hR hT hNK
  go_enter Try.func7, Try.ntmps7
  go_wp2_with fail
  refine hk.mono ?_
  rintro e w1 ⟨rfl, hb1⟩
  have hA : Hid (Below W.heap.size W w1) := hb1
  clear hk hb1
  go_wp2_with fail
  refine (Ob.own_new (B := W.heap.size) (HN0.out _) hA.out.size).mono ?_
  rintro e w' ⟨p, rfl, O', hb'⟩
  replace hA : Hid (Below W.heap.size W w') := hA.out.trans hb'
  have OB : Hid (Ob.Own At W.heap.size w' p (_)) := O'
  clear O' hb'
  go_wp2_with fail
  go_loopw [10] (fun i wr => ∃ k : Nat, k ≤ N ∧ i = .int .i64 k ∧ Hid (Ob.Own At W.heap.size wr p (Ck.st (256 * (U + 1)) (U + 1) (k * K))) ∧ Hid (Below W.heap.size W wr)) (fun i _ => N - (intOf i).toNat)
  case atStart => exact ⟨0, Nat.zero_le _, rfl, OB, hA⟩
  case round =>
    clear OB hA
    obtain ⟨k, hk, rfl, OB, hA⟩ := hrel
    by_cases hlt : k < N
    · skip
      go_wp2_with fail
      refine (Ob.own_turn (fun F h => S.tick _ _ F _ _ HW.out h) OB.out hA.out.size).mono ?_
      rintro e w' ⟨rfl, O', hb'⟩
      replace hA : Hid (Below W.heap.size W w') := hA.out.trans hb'
      replace OB : Hid (Ob.Own At W.heap.size w' _ (_)) := O'
      clear O' hb'
      rw [HTk.out k hlt] at OB
      go_wp2
      exact ⟨⟨k + 1, by omega, by simp, OB, hA⟩, by simp [intOf]; omega⟩
    · have hkN : k = N := by omega
      rw [hkN, HE.out] at OB
      clear hkN HTk HN0 HE
      have HTm : Hid (∀ w', Below wr.heap.size wr w' → Calls Try.prog 18 #[Ob.ptr p] w' fun e w'' => e = .returned (.int .u16 (Q : Int)) ∧ Below w'.heap.size w' w'') := fun w' hb => by
        obtain ⟨F, h, _⟩ := OB.out.on S.is hb
        exact S.time _ _ F _ h
      have HPt : Hid (∀ w', Below wr.heap.size wr w' → Calls Try.prog 19 #[Ob.ptr p] w' fun e w'' => e = .returned (.int .i64 ((R * 256 : Nat) : Int)) ∧ Below w'.heap.size w' w'') := fun w' hb => by
        obtain ⟨F, h, _⟩ := OB.out.on S.is hb
        exact S.part _ _ F _ h
      clear OB
      go_wp2_with fail
      refine Lw.wp_region_quiet_below (by kernel_rfl) (by kernel_rfl) ?_
      repeat (first
        | go_big_quiet_skip
        | (go_big_quiet_want; go_big_quiet_op; go_big_quiet_on)
        | (go_big_quiet_want; go_big_quiet_op; apply Exists.intro; refine ⟨fun _ hb' => ?_, ?_⟩; (first
          | exact Lw.val_rfl _
          | (go_at_call 18; exact Lw.calls_below hb' (HTm.out _ hb'))
          | (go_at_call 19; exact Lw.calls_below hb' (HPt.out _ hb'))
          | (simp [go_sem, hN, t0, q1]; rfl)
          | (simp [go_sem, r1]; rfl)); go_big_quiet_on))
      refine wpQuiet_nil ?_
      intro w9 hb9
      replace hA : Hid (Below W.heap.size W w9) := hA.out.trans (hb9.mono hA.out.size)
      clear hb9
      go_wp2
      go_ret
      exact ⟨by simp, hA.out⟩
theorem walkA (S : ClockSpec At) (a0 : Int) (w0 : (Lit.int .u8 a0).wf = true) (a1 : Int) (w1 : (Lit.int .u8 a1).wf = true) (a2 : Int) (w2 : (Lit.int .u16 a2).wf = true) (W : World) :
    Calls Try.prog 7 #[.int .u8 a0, .int .u8 a1, .int .u16 a2] W fun e w' => e = .returned (.bool true) ∧ Below W.heap.size W w' := by
  obtain ⟨h1, h2⟩ := bounds_u8 w0
  obtain ⟨h3, h4⟩ := bounds_u8 w1
  obtain ⟨h5, h6⟩ := bounds_u16 w2
  obtain ⟨a, rfl⟩ := Int.eq_ofNat_of_zero_le h1
  obtain ⟨b, rfl⟩ := Int.eq_ofNat_of_zero_le h3
  obtain ⟨c, rfl⟩ := Int.eq_ofNat_of_zero_le h5
  exact walkN S a b c (by omega) (by omega) (by omega) W
end Go.Proofs.Ytjjahfmjiinpcaa.clockSteady
