/- ConfineBack: who sends well again and again is rid of errors in the end. No condition. -/
import Derived.Test.YtnldihejdhceoaaKk
import Derived.Test.YtnldihejdhceoaaKn
import Derived.ProofKit
import Derived.OpenShut
namespace Go.Proofs.Ytnldihejdhceoaa.confineBack
open Go.ChangeShapes Go.WideShapes Go.ChangeAt Go.RowKit
set_option linter.unusedVariables false
set_option maxRecDepth 100000 in
set_option maxHeartbeats 4000000 in
theorem walkN (a : Nat) (h : a < 256) (W : World) : Calls Try.prog 5 #[.int .u8 (a : Int)] W fun e w' => e = .returned (.bool true) ∧ Below W.heap.size W w' := by
  obtain ⟨n, hn⟩ : ∃ n, a % 40 = n := ⟨_, rfl⟩
  have hn2 : n < 40 := by omega
  have hnI : (a : Int) % 40 = (n : Int) := by omega
  clear hn h
  have HS : Hid (∀ (k : Nat) w, k < n → Calls Try.prog 9 #[.agg #[.int .i64 (8 * (k : Int)), .int .i64 0], .bool false] w fun e w' => e = .returned (.agg #[.int .i64 (8 * ((k + 1 : Nat) : Int)), .int .i64 0]) ∧ Below w.heap.size w w') := fun k w hk => by
    have h := kSent_any (8 * (k : Int)) 0 false w (WalkArith.wf_i64 ⟨by omega, by omega⟩) (by decide)
    have e : Km.sentS (8 * (k : Int)) 0 false = 8 * ((k + 1 : Nat) : Int) := by
      unfold Km.sentS Km.sentV
      rw [Km.isC_true (by omega) (by omega) (by decide) (by decide), if_pos rfl, if_neg (by decide)]
      omega
    rw [e] at h
    exact h
  have HD : Hid (∀ (k : Nat) w, k < 8 * n → Calls Try.prog 9 #[.agg #[.int .i64 (8 * (n : Int) - (k : Int)), .int .i64 0], .bool true] w fun e w' => e = .returned (.agg #[.int .i64 (8 * (n : Int) - ((k + 1 : Nat) : Int)), .int .i64 0]) ∧ Below w.heap.size w w') := fun k w hk => by
    have h := kSent_any (8 * (n : Int) - (k : Int)) 0 true w (WalkArith.wf_i64 ⟨by omega, by omega⟩) (by decide)
    have e : Km.sentS (8 * (n : Int) - (k : Int)) 0 true = 8 * (n : Int) - ((k + 1 : Nat) : Int) := by
      unfold Km.sentS Km.sentV
      rw [Km.isC_true (by omega) (by omega) (by decide) (by decide), if_pos rfl, if_pos rfl]
      omega
    rw [e] at h
    exact h
  have HO : Hid (∀ w, Calls Try.prog 13 #[.agg #[.int .i64 (8 * (n : Int)), .int .i64 0]] w fun e w' => e = .returned (.bool (decide (32 ≤ (n : Int)))) ∧ Below w.heap.size w w') := fun w => by
    have h := kOff_any (8 * (n : Int)) 0 w (WalkArith.wf_i64 ⟨by omega, by omega⟩) (by decide)
    have e : Km.offC (8 * (n : Int)) = decide (32 ≤ (n : Int)) := decide_eq_decide.2 (by omega)
    rw [e] at h
    exact h
  have HP : Hid (∀ w, Calls Try.prog 15 #[.agg #[.int .i64 0, .int .i64 0]] w fun e w' => e = .returned (.bool false) ∧ Below w.heap.size w w') := fun w => kPas_any 0 0 w (by decide) (by decide)
  go_enter Try.func5, Try.ntmps5
  go_wp2_with fail
  refine (known5_any _).mono ?_
  rintro e w1 ⟨rfl, hb1⟩
  go_wp2_with fail
  have hw1 : W.heap.size ≤ w1.heap.size := hb1.size
  clear hnI
  go_loopw [5] (fun i wr => ∃ k : Nat, k ≤ n ∧ i = .int .i64 k ∧ Hid (LiesC wr w1.heap.size (8 * (k : Int)) 0) ∧ Hid (Below W.heap.size W wr)) (fun i _ => n - (intOf i).toNat)
  case atStart => exact ⟨0, Nat.zero_le _, rfl, LiesC.new w1 0 0, hb1.alloc hb1.size _⟩
  case round =>
    obtain ⟨k, hk, rfl, L0, hA⟩ := hrel
    by_cases hlt : k < n
    · have a0 := L0.out.c0
      have a1 := L0.out.c1
      have HSk : Hid (_) := fun w => HS.out k w hlt
      clear HS HD HO HP
      go_wp2_with fail
      refine (HSk.out _).mono ?_
      rintro e w3 ⟨rfl, hb3⟩
      replace L0 : Hid (LiesC _ _ _ _) := L0.out.on hb3
      replace hA : Hid (Below W.heap.size W _) := below_joinC hA.out hb3
      clear hb3 a0 a1 HSk
      have a0 := L0.out.c0
      have a1 := L0.out.c1
      have a2 := L0.out.f0
      have a3 := L0.out.f1
      have HW : Hid (LiesC ((w3.setCell ⟨w1.heap.size, 0, none⟩ (.int .i64 (8 * ((k + 1 : Nat) : Int)))).setCell ⟨w1.heap.size, 1, none⟩ (.int .i64 0)) w1.heap.size (8 * ((k + 1 : Nat) : Int)) 0) := two_cellsC L0.out
      have hA2 : Hid (Below W.heap.size W ((w3.setCell ⟨w1.heap.size, 0, none⟩ (.int .i64 (8 * ((k + 1 : Nat) : Int)))).setCell ⟨w1.heap.size, 1, none⟩ (.int .i64 0))) := (hA.out.setCell hw1 _).setCell hw1 _
      clear L0 hA
      go_wp2
      go_roundw
      case rel => exact ⟨k + 1, by omega, by go_num, HW, hA2⟩
      case measure => simp [intOf]; omega
    · obtain rfl : k = n := by omega
      have a0 := L0.out.c0
      have a1 := L0.out.c1
      clear HS
      go_wp2_with fail
      refine (HO.out _).mono ?_
      rintro e w2 ⟨rfl, hb2⟩
      replace L0 : Hid (LiesC _ _ _ _) := L0.out.on hb2
      replace hA : Hid (Below W.heap.size W _) := below_joinC hA.out hb2
      clear hb2 a0 a1
      have HS := HO
      go_wp2_with fail
      go_loopw [7] (fun i wr => ∃ m : Nat, m ≤ 8 * k ∧ i = .int .i64 m ∧ Hid (LiesC wr w1.heap.size (8 * (k : Int) - (m : Int)) 0) ∧ Hid (Below W.heap.size W wr)) (fun i _ => 8 * k - (intOf i).toNat)
      case atStart => exact ⟨0, Nat.zero_le _, rfl, by simpa using L0, hA⟩
      case round =>
        obtain ⟨m, hm, rfl, L0, hA⟩ := hrel
        by_cases hlt : m < 8 * k
        · have a0 := L0.out.c0
          have a1 := L0.out.c1
          have HSk : Hid (_) := fun w => HD.out m w hlt
          clear HS HD HO HP
          go_wp2_with fail
          refine (HSk.out _).mono ?_
          rintro e w3 ⟨rfl, hb3⟩
          replace L0 : Hid (LiesC _ _ _ _) := L0.out.on hb3
          replace hA : Hid (Below W.heap.size W _) := below_joinC hA.out hb3
          clear hb3 a0 a1 HSk
          have a0 := L0.out.c0
          have a1 := L0.out.c1
          have a2 := L0.out.f0
          have a3 := L0.out.f1
          have HW : Hid (LiesC ((w3.setCell ⟨w1.heap.size, 0, none⟩ (.int .i64 (8 * (k : Int) - ((m + 1 : Nat) : Int)))).setCell ⟨w1.heap.size, 1, none⟩ (.int .i64 0)) w1.heap.size (8 * (k : Int) - ((m + 1 : Nat) : Int)) 0) := two_cellsC L0.out
          have hA2 : Hid (Below W.heap.size W ((w3.setCell ⟨w1.heap.size, 0, none⟩ (.int .i64 (8 * (k : Int) - ((m + 1 : Nat) : Int)))).setCell ⟨w1.heap.size, 1, none⟩ (.int .i64 0))) := (hA.out.setCell hw1 _).setCell hw1 _
          clear L0 hA
          go_wp2
          go_roundw
          case rel => exact ⟨m + 1, by omega, by go_num, HW, hA2⟩
          case measure => simp [intOf]; omega
        · obtain rfl : m = 8 * k := by omega
          have L1 : Hid (LiesC wr w1.heap.size 0 0) := by
            have h := L0.out
            rw [show 8 * (k : Int) - ((8 * k : Nat) : Int) = 0 from by omega] at h
            exact h
          have a0 := L1.out.c0
          have a1 := L1.out.c1
          clear HS HD HO L0
          go_wp2_with fail
          refine (HP.out _).mono ?_
          rintro e w4 ⟨rfl, hb4⟩
          replace hA : Hid (Below W.heap.size W _) := below_joinC hA.out hb4
          clear hb4
          go_wp2
          all_goals
            go_ret
            exact ⟨rfl, hA.out⟩
theorem walk (a0 : Int) (w0 : (Lit.int .u8 a0).wf = true) (W : World) : Calls Try.prog 5 #[.int .u8 a0] W fun e w' => e = .returned (.bool true) ∧ Below W.heap.size W w' := by
  obtain ⟨h1, h2⟩ := bounds_u8 w0
  obtain ⟨n, rfl⟩ := Int.eq_ofNat_of_zero_le h1
  exact walkN n (by omega) W
theorem own : ownKnob Try.prog.godebug = none := by kernel_rfl
set_option maxRecDepth 100000 in
theorem lifted (os : Os) (started : os.Started) (H : Type) (enc : TypeId × Value → H) :
    ReturnsInHanded {} Try.checked os 5 .any (Rows.confineBackSpec.pre6 enc Try.prog Try.f5 Rows.confineBackRow.domain false) (Rows.confineBackSpec.post enc Try.prog Try.f5 false true false false) := by
  refine returnsInHanded_of_change (C := Try.checked) own started (by kernel_rfl) Try.func5
    (ChangeSpec.witness6 (enc := enc) (C := Try.checked) false ⟨#[], #[.int .u8 0], []⟩ 8 (by kernel_rfl) (by kernel_rfl) (by kernel_rfl) (by kernel_rfl)) ?_
  intro W base args ds gs before hval0 hW hcnd _
  have hval : ∀ (j : Nat) t v, Try.f5.params[j]? = some t → args[j]? = some v → Value.okWide Try.prog W .any base t v := hval0
  have hW' := hW
  obtain ⟨p, q, hA0, hV, rfl, hfz, hnd⟩ := hW
  have hA : DataW.TrodAll enc Try.prog W 0 (fun _ => true) true Try.f5.params.toList args.toList ds p := hA0
  rw [Try.params5] at hA hval
  obtain ⟨v0, vs0, d0, ds0, p0, q0, hargs, rfl, rfl, h0, r0⟩ := trodAll_cons hA
  obtain ⟨rfl, rfl, rfl⟩ := trodAll_nil r0
  obtain rfl : args = #[v0] := by cases args; simp_all
  obtain ⟨rfl, rfl⟩ := trodVars_none hV
  obtain ⟨a0, rfl, rfl, rfl, w0⟩ := open_int Try.underlying5 (hval 0 5 v0 rfl rfl) h0
  clear hA0 hval0
  refine (walk a0 w0 W).mono fun e W' ⟨he, bel⟩ => ?_
  subst he
  exact ⟨_, rfl, _, _, _, [], _, [], hW', trodAll_mk1 (shut_bool Try.underlying4 _), (trodAll_cons_mk (shut_int Try.underlying5 w0) trodAll_mk0), rfl, bel.frame _, fun h => by cases h⟩
theorem over : Rows.confineBackRow.holds Try.pinned (OpenSpec.ofChange Rows.confineBackSpec) :=
  OpenClaim.holds_of_wide 5 Try.f5 rfl rfl rfl rfl rfl rfl rfl ⟨rfl, rfl, rfl, rfl, rfl⟩ rfl rfl rfl rfl rfl (by kernel_rfl) Try.func5 (by kernel_rfl)
    (of_decide_eq_true (by kernel_rfl)) (by unfold Func.isWrapper; first | (rw [if_pos (by decide +kernel)]; kernel_rfl) | (rw [if_neg (by decide +kernel)]; exact ⟨rfl, rfl⟩))
    (fun os started H enc _ => lifted os started H enc)
end Go.Proofs.Ytnldihejdhceoaa.confineBack
namespace Go.Proofs.Ytnldihejdhceoaa
/-- The statement. -/
theorem confineBack_holds : Rows.ConfineBackSaid := confineBack.over
#print axioms confineBack_holds
end Go.Proofs.Ytnldihejdhceoaa
