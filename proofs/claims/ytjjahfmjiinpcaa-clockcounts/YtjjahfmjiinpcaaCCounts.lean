/- ClockCounts: ticks are never lost: all of them together are units and a part, for every slice of at most 300 bytes (others are let by); no condition. -/
import Derived.Test.YtjjahfmjiinpcaaC2
import Derived.Test.YtjjahfmjiinpcaaCSteady
import Derived.Test.YtjjahfmjiinpcaaFu
import Derived.ProofKit
import Derived.OpenShut
namespace Go.Proofs.Ytjjahfmjiinpcaa.clockCounts
open Go.ChangeShapes Go.WideShapes Go.ChangeAt Go.RowKit
set_option linter.unusedVariables false
variable {At : Ob.A Ck.St}
set_option maxRecDepth 100000 in
set_option maxHeartbeats 1000000 in
theorem long (S : ClockSpec At) (a : Nat) (ha : a < 256) (s : Option Addr) (len cap : Nat) (hl : 300 < len) (W : World) :
    Calls Try.prog 4 #[.int .u8 (a : Int), .slice s len cap] W fun e w' => e = .returned (.bool true) ∧ Below W.heap.size W w' := by
  have hk := known9_any S W
  go_enter Try.func4, Try.ntmps4
  go_wp2_with fail
  refine hk.mono ?_
  rintro e w1 ⟨rfl, hb1⟩
  have hA : Hid (Below W.heap.size W w1) := hb1
  clear hk hb1
  go_wp2
  go_ret
  exact ⟨rfl, hA.out⟩
set_option maxRecDepth 100000 in
set_option maxHeartbeats 2000000 in
theorem row (S : ClockSpec At) (a : Nat) (ha : a < 256) (s : Option Addr) (len cap : Nat) (B : Nat → Nat) (hl : len ≤ 300) (W : World) (h1 : Hid (U8Row W s len B)) :
    Calls Try.prog 4 #[.int .u8 (a : Int), .slice s len cap] W fun e w' => e = .returned (.bool true) ∧ Below W.heap.size W w' := by
  have hk := known9_any S W
  obtain ⟨U, hU⟩ : ∃ U : Nat, (a : Int) % 64 = (U : Int) := ⟨a % 64, by omega⟩
  have u1 : U < 64 := by omega
  have HN0 : Hid (∀ w, Ob.Makes Try.prog At 10 #[.int .i64 ((U : Int) + 1)] w (Ck.st (256 * (U + 1)) (U + 1) 0)) := fun w => by
    have h := S.new w ((U : Int) + 1) (WalkArith.wf_i64 ⟨by omega, by omega⟩)
    rw [show ((U : Int) + 1) = ((U + 1 : Nat) : Int) from by simp, Ck.st_new (U + 1) (by omega) (by omega)] at h
    exact h
  have HTk : Hid (∀ T K : Nat, T ≤ 3000 → K ≤ 8 → Ck.tick (Ck.st (256 * (U + 1)) (U + 1) T) (K : Int) = Ck.st (256 * (U + 1)) (U + 1) (T + K)) := fun T K h1 h2 => by
    rw [Ck.st_tick _ _ _ _ (by omega) h2]
    rw [Nat.mul_comm 256 (U + 1), Nat.mul_div_mul_right _ _ (by decide : 0 < 256)]
    exact Nat.lt_of_le_of_lt (Nat.div_le_self _ _) (by omega)
  have HSt : Hid (∀ T : Nat, Ck.st (256 * (U + 1)) (U + 1) T = ⟨T / (U + 1), T % (U + 1) * 256, 256 * (U + 1), U + 1⟩) := fun T => clockSteady.st_end _ _ (by omega)
  go_enter Try.func4, Try.ntmps4
  go_wp2_with fail
  refine hk.mono ?_
  rintro e w1 ⟨rfl, hb1⟩
  have hA : Hid (Below W.heap.size W w1) := hb1
  clear hk hb1
  go_wp2_with fail
  refine (Ob.own_new (B := W.heap.size) (HN0.out _) hA.out.size).mono ?_
  rintro e w' ⟨p, rfl, O', hb'⟩
  replace hA : Hid (Below W.heap.size W w') := hA.out.trans hb'
  have OB : Hid (Ob.Own At W.heap.size w' p (_)) := O'
  clear O' hb'
  clear HN0
  go_wp2_with fail
  go_loopw [7, 8] (fun sm i wr => ∃ k T : Nat, k ≤ len ∧ T ≤ 8 * k ∧ i = .int .i64 k ∧ sm = .int .i64 T ∧ Hid (Ob.Own At W.heap.size wr p (Ck.st (256 * (U + 1)) (U + 1) T)) ∧ Hid (Below W.heap.size W wr)) (fun _ i _ => len - (intOf i).toNat)
  case atStart => exact ⟨0, 0, Nat.zero_le _, Nat.zero_le _, rfl, rfl, OB, hA⟩
  case round =>
    clear OB hA
    obtain ⟨k, T, hk, hT, rfl, rfl, OB, hA⟩ := hrel
    by_cases hlt : k < len
    · obtain h0 | ⟨b1, o1, rfl, hc1⟩ := h1.out
      · omega
      have hce : Hid (∀ w : World, Below W.heap.size W w → w.cell? ⟨b1, o1 + k, none⟩ = some (.int .u8 (B k : Int))) := fun w hb => by
        have h := (hc1 k hlt).1
        rw [hb.cell (p := ⟨b1, o1 + k, none⟩) (block_lt_of_cell h)]
        exact h
      have hB := (hc1 k hlt).2
      clear hc1
      generalize B k = x at *
      obtain ⟨K, hK⟩ : ∃ K : Nat, (x : Int) % 9 = (K : Int) := ⟨x % 9, by omega⟩
      have k8 : K ≤ 8 := by omega
      have HW : Hid ((Lit.int .i64 (K : Int)).wf = true) := WalkArith.wf_i64 ⟨by omega, by omega⟩
      have t1 := hce.out _ hA.out
      go_wp2_with fail
      refine (Ob.own_turn (fun F h => S.tick _ _ F _ _ HW.out h) OB.out hA.out.size).mono ?_
      rintro e w' ⟨rfl, O', hb'⟩
      replace hA : Hid (Below W.heap.size W w') := hA.out.trans hb'
      replace OB : Hid (Ob.Own At W.heap.size w' _ (_)) := O'
      clear O' hb'
      rw [HTk.out T K (by omega) k8, HSt.out] at OB
      clear t1
      have t1 := hce.out _ hA.out
      obtain ⟨Q, hQ⟩ : ∃ Q, (T + K) / (U + 1) = Q := ⟨_, rfl⟩
      obtain ⟨R, hR⟩ : ∃ R, (T + K) % (U + 1) = R := ⟨_, rfl⟩
      obtain ⟨Z, hZ⟩ : ∃ Z, Q * (U + 1) = Z := ⟨_, rfl⟩
      have hsum : Z + R = T + K := by
        have := Nat.div_add_mod (T + K) (U + 1)
        rw [hQ, hR, Nat.mul_comm, hZ] at this
        exact this
      have hRl : R < U + 1 := by rw [← hR]; exact Nat.mod_lt _ (by omega)
      have hQl : Q ≤ 3000 := by rw [← hQ]; exact Nat.le_trans (Nat.div_le_self _ _) (by omega)
      have z1 : (Q : Int) * ((U : Int) + 1) = (Z : Int) := by rw [← hZ]; simp
      have zl : Z ≤ 3000 := by omega
      have e1 : ((Z : Int) * 256 + ((R : Int) * 256)) = (((T : Int) + (K : Int)) * 256) := by omega
      have OB2 : Hid (Ob.Own At W.heap.size w' p ⟨Q, R * 256, 256 * (U + 1), U + 1⟩) := by have h := OB.out; rw [hQ, hR] at h; exact h
      have OBs : Hid (Ck.st (256 * (U + 1)) (U + 1) (T + K) = ⟨Q, R * 256, 256 * (U + 1), U + 1⟩) := by show _ = _; rw [HSt.out, hQ, hR]
      clear OB hQ hR hZ
      have OB := OB2
      clear OB2
      go_wp2_with fail
      refine (Ob.own_look S.is (fun F h => S.time _ _ F _ h) OB.out hA.out.size).mono ?_
      rintro e w' ⟨rfl, O', hb'⟩
      replace hA : Hid (Below W.heap.size W w') := hA.out.trans hb'
      replace OB : Hid (Ob.Own At W.heap.size w' _ _) := O'
      clear O' hb'
      go_wp2_with fail
      refine (Ob.own_look S.is (fun F h => S.part _ _ F _ h) OB.out hA.out.size).mono ?_
      rintro e w' ⟨rfl, O', hb'⟩
      replace hA : Hid (Below W.heap.size W w') := hA.out.trans hb'
      replace OB : Hid (Ob.Own At W.heap.size w' _ _) := O'
      clear O' hb'
      go_wp2_with fail
      refine (Ob.own_look S.is (fun F h => S.part _ _ F _ h) OB.out hA.out.size).mono ?_
      rintro e w' ⟨rfl, O', hb'⟩
      replace hA : Hid (Below W.heap.size W w') := hA.out.trans hb'
      replace OB : Hid (Ob.Own At W.heap.size w' _ _) := O'
      clear O' hb'
      go_wp2
      exact ⟨⟨k + 1, T + K, by omega, by omega, by simp, by simp, by rw [OBs.out]; exact OB, hA⟩, by simp [intOf]; omega⟩
    · have hkl : k = len := by omega
      clear OB
      go_wp2
      go_ret
      exact ⟨rfl, hA.out⟩
theorem walkA (S : ClockSpec At) (a0 : Int) (w0 : (Lit.int .u8 a0).wf = true) (s1 : Option Addr) (len1 cap1 : Nat) {w : World} (w1 : len1 ≤ maxLen ∧ ∃ B, U8Row w s1 len1 B) (w' : World) (hw : w' = w) :
    Calls Try.prog 4 #[.int .u8 a0, .slice s1 len1 cap1] w' fun e w'' => e = .returned (.bool true) ∧ Below w'.heap.size w' w'' := by
  subst hw
  obtain ⟨h1, h2⟩ := bounds_u8 w0
  obtain ⟨a, rfl⟩ := Int.eq_ofNat_of_zero_le h1
  obtain ⟨_, B, hB⟩ := w1
  by_cases h : 300 < len1
  · exact long S a (by omega) _ _ _ h _
  · exact row S a (by omega) _ _ _ B (by omega) _ hB
end Go.Proofs.Ytjjahfmjiinpcaa.clockCounts
