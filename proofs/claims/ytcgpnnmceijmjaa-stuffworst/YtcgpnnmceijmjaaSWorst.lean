/- StuffWorst: rows that make most bits be laid make just so many, for every length up to 255 and either bit; no condition. -/
import Derived.Test.YtcgpnnmceijmjaaRows
import Derived.Test.YtcgpnnmceijmjaaSl
import Derived.Test.YtcgpnnmceijmjaaSm4
import Derived.Test.YtcgpnnmceijmjaaUn
import Derived.WalkKit
import Derived.ProofKit
import Derived.OpenShut
import Derived.ShutString
namespace Go.Proofs.Ytcgpnnmceijmjaa.stuffWorst
open Go.ChangeShapes Go.WideShapes Go.ChangeAt Go.RowKit
open Go.ChangeMaps (open_string shut_string)
set_option linter.unusedVariables false
theorem row_snoc (bs : List Bool) (b : Bool) : (ByteArray.mk (Bm.row (bs ++ [b])).toArray) = ByteArray.mk (Bm.row bs).toArray ++ ByteArray.mk #[Bm.sign b] := by
  rw [show ByteArray.mk #[Bm.sign b] = ByteArray.mk [Bm.sign b].toArray from rfl, Bm.str_app]
  simp [Bm.row]
set_option maxRecDepth 100000 in
set_option maxHeartbeats 1000000 in
theorem noughts (n : Nat) (hn : n < 256) (w : World) :
    Calls Try.prog 5 #[.int .u8 n, .bool false] w fun e w' => e = .returned (.bool true) ∧ Below w.heap.size w w' := by
  go_enter Try.func5, Try.ntmps5
  go_wp2_with fail
  refine (known2_any _).mono ?_; rintro e w1 ⟨rfl, hb1⟩
  go_wp2_with fail
  go_loop [7, 8] (fun t i => ∃ k : Nat, k ≤ n ∧ i = .int .i64 k ∧ t = .string ⟨(Bm.row (Sm.worst false k)).toArray⟩) (fun _ i => n - (intOf i).toNat)
  case atStart => exact ⟨0, Nat.zero_le _, rfl, rfl⟩
  case round =>
    obtain ⟨k, hk, rfl, rfl⟩ := hrel
    by_cases hlt : k < n
    · have hl : (Bm.row (Sm.worst false k)).length = k := by rw [Bm.length_row, Sm.length_worst]
      have HS := Sm.worst_succ false k
      by_cases h5 : k < 5
      · rw [if_pos (Or.inl h5)] at HS
        have HW : Hid (_) := HS
        clear HS
        go_wp2
        go_round
        case rel => exact ⟨k + 1, by omega, by go_num, by rw [HW.out, row_snoc]; rfl⟩
        case measure => simp [intOf]; omega
      · by_cases h1 : (k - 5) / 4 % 2 = 1
        · rw [if_pos (Or.inr h1)] at HS
          have t1 : (((k : Int) - 5) / 4 % 2 == 1) = true := by simp; omega
          have HW : Hid (_) := HS
          clear HS
          go_wp2
          go_round
          case rel => exact ⟨k + 1, by omega, by go_num, by rw [HW.out, row_snoc]; rfl⟩
          case measure => simp [intOf]; omega
        · rw [if_neg (by omega)] at HS
          have t1 : (((k : Int) - 5) / 4 % 2 == 1) = false := by simp; omega
          have HW : Hid (_) := HS
          clear HS
          go_wp2
          go_round
          case rel => exact ⟨k + 1, by omega, by go_num, by rw [HW.out, row_snoc]; rfl⟩
          case measure => simp [intOf]; omega
    · obtain rfl : k = n := by omega
      have HM : Hid ((Sm.stuff (Sm.worst false k)).length = Sm.most k) := Sm.worst_len k hn false
      have hlr := Bm.length_row
      go_wp2_with fail
      refine (stuff_row _ _ (by rw [Sm.length_worst]; omega)).mono ?_; rintro e w2 ⟨rfl, hb2⟩
      have hM := HM.out
      go_wp2_with fail
      refine (most_nat k _ rfl (by omega) _).mono ?_; rintro e w3 ⟨rfl, rfl⟩
      go_wp2_with fail
      refine (most_any _ _).mono ?_; rintro e w4 ⟨rfl, rfl⟩
      rw [Sm.hold_low]
      go_wp2_with fail
      refine (most_any _ _).mono ?_; rintro e w5 ⟨rfl, rfl⟩
      rw [Sm.hold_high]
      go_wp2_with fail
      refine (most_any _ _).mono ?_; rintro e w6 ⟨rfl, rfl⟩
      go_wp2_with fail
      go_ret
      exact ⟨rfl, below_join hb1 hb2⟩
set_option maxRecDepth 100000 in
set_option maxHeartbeats 1000000 in
theorem ones (n : Nat) (hn : n < 256) (w : World) :
    Calls Try.prog 5 #[.int .u8 n, .bool true] w fun e w' => e = .returned (.bool true) ∧ Below w.heap.size w w' := by
  go_enter Try.func5, Try.ntmps5
  go_wp2_with fail
  refine (known2_any _).mono ?_; rintro e w1 ⟨rfl, hb1⟩
  go_wp2_with fail
  go_loop [7, 8] (fun t i => ∃ k : Nat, k ≤ n ∧ i = .int .i64 k ∧ t = .string ⟨(Bm.row (Sm.worst true k)).toArray⟩) (fun _ i => n - (intOf i).toNat)
  case atStart => exact ⟨0, Nat.zero_le _, rfl, rfl⟩
  case round =>
    obtain ⟨k, hk, rfl, rfl⟩ := hrel
    by_cases hlt : k < n
    · have hl : (Bm.row (Sm.worst true k)).length = k := by rw [Bm.length_row, Sm.length_worst]
      have HS := Sm.worst_succ true k
      by_cases h5 : k < 5
      · rw [if_pos (Or.inl h5)] at HS
        have HW : Hid (_) := HS
        clear HS
        go_wp2
        go_round
        case rel => exact ⟨k + 1, by omega, by go_num, by rw [HW.out, row_snoc]; rfl⟩
        case measure => simp [intOf]; omega
      · by_cases h1 : (k - 5) / 4 % 2 = 1
        · rw [if_pos (Or.inr h1)] at HS
          have t1 : (((k : Int) - 5) / 4 % 2 == 1) = true := by simp; omega
          have HW : Hid (_) := HS
          clear HS
          go_wp2
          go_round
          case rel => exact ⟨k + 1, by omega, by go_num, by rw [HW.out, row_snoc]; rfl⟩
          case measure => simp [intOf]; omega
        · rw [if_neg (by omega)] at HS
          have t1 : (((k : Int) - 5) / 4 % 2 == 1) = false := by simp; omega
          have HW : Hid (_) := HS
          clear HS
          go_wp2
          go_round
          case rel => exact ⟨k + 1, by omega, by go_num, by rw [HW.out, row_snoc]; rfl⟩
          case measure => simp [intOf]; omega
    · obtain rfl : k = n := by omega
      have HM : Hid ((Sm.stuff (Sm.worst true k)).length = Sm.most k) := Sm.worst_len k hn true
      have hlr := Bm.length_row
      go_wp2_with fail
      refine (stuff_row _ _ (by rw [Sm.length_worst]; omega)).mono ?_; rintro e w2 ⟨rfl, hb2⟩
      have hM := HM.out
      go_wp2_with fail
      refine (most_nat k _ rfl (by omega) _).mono ?_; rintro e w3 ⟨rfl, rfl⟩
      go_wp2_with fail
      refine (most_any _ _).mono ?_; rintro e w4 ⟨rfl, rfl⟩
      rw [Sm.hold_low]
      go_wp2_with fail
      refine (most_any _ _).mono ?_; rintro e w5 ⟨rfl, rfl⟩
      rw [Sm.hold_high]
      go_wp2_with fail
      refine (most_any _ _).mono ?_; rintro e w6 ⟨rfl, rfl⟩
      go_wp2_with fail
      go_ret
      exact ⟨rfl, below_join hb1 hb2⟩
theorem walk (a0 : Int) (w0 : (Lit.int .u8 a0).wf = true) (a1 : Bool) (w : World) :
    Calls Try.prog 5 #[.int .u8 a0, .bool a1] w fun e w' => e = .returned (.bool true) ∧ Below w.heap.size w w' := by
  obtain ⟨n, rfl, hn⟩ := u8_nat w0
  cases a1
  · exact noughts n hn w
  · exact ones n hn w
theorem own : ownKnob Try.prog.godebug = none := by kernel_rfl
set_option maxRecDepth 100000 in
theorem lifted (os : Os) (started : os.Started) (H : Type) (enc : TypeId × Value → H) :
    ReturnsInHanded {} Try.checked os 5 .any (Rows.stuffWorstSpec.pre6 enc Try.prog Try.f5 Rows.stuffWorstRow.domain false) (Rows.stuffWorstSpec.post enc Try.prog Try.f5 false true false false) := by
  refine returnsInHanded_of_change (C := Try.checked) own started (by kernel_rfl) Try.func5
    (ChangeSpec.witness6 (enc := enc) (C := Try.checked) false ⟨#[], #[.int .u8 0, .bool false], []⟩ 8 (by kernel_rfl) (by kernel_rfl) (by kernel_rfl) (by kernel_rfl)) ?_
  intro W base args ds gs before hval0 hW hcnd _
  have hval : ∀ (j : Nat) t v, Try.f5.params[j]? = some t → args[j]? = some v → Value.okWide Try.prog W .any base t v := hval0
  have hW' := hW
  obtain ⟨p, q, hA0, hV, rfl, hfz, hnd⟩ := hW
  have hA : DataW.TrodAll enc Try.prog W 0 (fun _ => true) true Try.f5.params.toList args.toList ds p := hA0
  rw [Try.params5] at hA hval
  obtain ⟨v0, vs0, d0, ds0, p0, q0, hargs, rfl, rfl, h0, r0⟩ := trodAll_cons hA
  obtain ⟨v1, vs1, d1, ds1, p1, q1, rfl, rfl, rfl, h1, r1⟩ := trodAll_cons r0
  obtain ⟨rfl, rfl, rfl⟩ := trodAll_nil r1
  obtain rfl : args = #[v0, v1] := by cases args; simp_all
  obtain ⟨rfl, rfl⟩ := trodVars_none hV
  obtain ⟨a0, rfl, rfl, rfl, w0⟩ := open_int Try.underlying5 (hval 0 5 v0 rfl rfl) h0
  obtain ⟨a1, rfl, rfl, rfl⟩ := open_bool Try.underlying4 (hval 1 4 v1 rfl rfl) h1
  clear hA0 hval0
  refine (walk a0 w0 a1 W).mono fun e W' ⟨he, bel⟩ => ?_
  subst he
  exact ⟨_, rfl, _, _, _, [], _, [], hW', trodAll_mk1 (shut_bool Try.underlying4 _), (trodAll_cons_mk (shut_int Try.underlying5 w0) (trodAll_cons_mk (shut_bool Try.underlying4 a1) trodAll_mk0)), rfl, bel.frame _, fun h => by cases h⟩
theorem over : Rows.stuffWorstRow.holds Try.pinned (OpenSpec.ofChange Rows.stuffWorstSpec) :=
  OpenClaim.holds_of_wide 5 Try.f5 rfl rfl rfl rfl rfl rfl rfl ⟨rfl, rfl, rfl, rfl, rfl⟩ rfl rfl rfl rfl rfl (by kernel_rfl) Try.func5 (by kernel_rfl)
    (of_decide_eq_true (by kernel_rfl)) (by unfold Func.isWrapper; first | (rw [if_pos (by decide +kernel)]; kernel_rfl) | (rw [if_neg (by decide +kernel)]; exact ⟨rfl, rfl⟩))
    (fun os started H enc _ => lifted os started H enc)
end Go.Proofs.Ytcgpnnmceijmjaa.stuffWorst
namespace Go.Proofs.Ytcgpnnmceijmjaa
/-- The statement. -/
theorem stuffWorst_holds : Rows.StuffWorstSaid := stuffWorst.over
#print axioms stuffWorst_holds
end Go.Proofs.Ytcgpnnmceijmjaa
