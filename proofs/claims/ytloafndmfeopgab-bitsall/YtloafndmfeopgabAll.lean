/- BitsAll: in every text of at most 64 bytes (longer ones are let by) what is no bit counts as 0, in every call of package bits; no condition. -/
import Derived.Test.YtloafndmfeopgabRows
import Derived.Test.YtloafndmfeopgabLc
import Derived.Test.YtloafndmfeopgabBm5
import Derived.WalkKit
import Derived.ProofKit
import Derived.OpenShut
import Derived.ShutString
namespace Go.Proofs.Ytloafndmfeopgab.bitsAll
open Go.ChangeShapes Go.WideShapes Go.ChangeAt Go.RowKit
open Go.ChangeMaps (open_string shut_string)
set_option linter.unusedVariables false
set_option maxRecDepth 100000 in
set_option maxHeartbeats 1000000 in
theorem walk (a0 : ByteArray) (w0 : a0.size ≤ maxLen) (a1 : Int) (w1 : (Lit.int .u8 a1).wf = true) (w : World) :
    Calls Try.prog 4 #[.string a0, .int .u8 a1] w fun e w' => e = .returned (.bool true) ∧ Below w.heap.size w w' := by
  obtain ⟨c, rfl, hc⟩ := u8_nat w1
  clear w1
  have hm := w0
  unfold maxLen at hm
  by_cases hlen : 64 < a0.size
  · go_enter Try.func4, Try.ntmps4
    go_wp2_with fail
    refine (known_any _).mono ?_; rintro e w1 ⟨rfl, hb1⟩
    go_wp2_with fail
    go_ret
    exact ⟨rfl, hb1⟩
  · go_enter Try.func4, Try.ntmps4
    go_wp2_with fail
    refine (known_any _).mono ?_; rintro e w1 ⟨rfl, hb1⟩
    go_wp2_with fail
    go_loop [5, 6] (fun t i => ∃ k : Nat, k ≤ a0.size ∧ i = .int .i64 k ∧ t = .string ⟨(Bm.row (Bm.read (a0.data.toList.take k))).toArray⟩) (fun _ i => a0.size - (intOf i).toNat)
    case atStart => exact ⟨0, Nat.zero_le _, rfl, rfl⟩
    case round =>
      obtain ⟨k, hk, rfl, rfl⟩ := hrel
      by_cases hlt : k < a0.size
      · have hl := Bm.length_rr_take a0 k hk
        have HF : Hid (Bm.row (Bm.read (a0.data.toList.take (k + 1))) = Bm.row (Bm.read (a0.data.toList.take k)) ++ [Bm.sign (Bm.isOne a0[k])]) := Bm.row_read_take_succ a0 k hlt
        generalize Bm.row (Bm.read (a0.data.toList.take k)) = l at *
        cases h1 : ((a0[k].toNat : Int) == 49)
        · have HI : Hid (Bm.isOne a0[k] = false) := by show _ = _; rw [← Bm.isOne_dec, h1]
          go_wp2
          go_round
          case rel => exact ⟨k + 1, by omega, by go_num, by rw [HF.out, HI.out, ← Bm.str_app]; rfl⟩
          case measure => simp [intOf]; omega
        · have HI : Hid (Bm.isOne a0[k] = true) := by show _ = _; rw [← Bm.isOne_dec, h1]
          go_wp2
          go_round
          case rel => exact ⟨k + 1, by omega, by go_num, by rw [HF.out, HI.out, ← Bm.str_app]; rfl⟩
          case measure => simp [intOf]; omega
      · have hT := Bm.take_all a0 k (by omega)
        rw [hT]
        clear hT
        have hlr : (Bm.read a0.data.toList).length ≤ 64 := by rw [Bm.length_read]; simp; omega
        have HBo : Hid (_) := Bm.both_self (Bm.read a0.data.toList)
        go_wp2_with fail
        refine (is_row _ _ (by omega)).mono ?_; rintro e w2 ⟨rfl, rfl⟩
        go_wp2_with fail
        refine (num_any a0 _ w0).mono ?_; rintro e w3 ⟨rfl, rfl⟩
        go_wp2_with fail
        refine (num_row _ _ (by omega)).mono ?_; rintro e w4 ⟨rfl, rfl⟩
        go_wp2_with fail
        refine (crc_any a0 _ w0).mono ?_; rintro e w5 ⟨rfl, rfl⟩
        go_wp2_with fail
        refine (crc_row _ _ (by omega)).mono ?_; rintro e w6 ⟨rfl, rfl⟩
        go_wp2_with fail
        refine (and_any a0 a0 _ (by omega)).mono ?_; rintro e w7 ⟨rfl, hb7⟩
        rw [HBo.out]
        go_wp2_with fail
        refine (bytes_any a0 _ (by omega)).mono ?_; rintro e w8 ⟨rfl, hb8⟩
        go_wp2_with fail
        refine (bytes_row _ _ (by omega)).mono ?_; rintro e w9 ⟨rfl, hb9⟩
        go_wp2_with fail
        refine (turn_any a0 _ _ (by omega)).mono ?_; rintro e w10 ⟨rfl, hb10⟩
        go_wp2_with fail
        refine (turn_row _ _ _ (by omega)).mono ?_; rintro e w11 ⟨rfl, hb11⟩
        go_wp2_with fail
        refine (is_any a0 _ w0).mono ?_; rintro e w12 ⟨rfl, rfl⟩
        go_wp2_with fail
        go_ret
        refine ⟨?_, below_join (below_join (below_join (below_join (below_join hb1 hb7) hb8) hb9) hb10) hb11⟩
        refine ret_bool (a := (Bm.okAll a0.data.toList == (a0.toList == Bm.row (Bm.read a0.data.toList)))) ?_
        rw [Lib.toList_data]
        exact Bm.okAll_iff _
theorem own : ownKnob Try.prog.godebug = none := by kernel_rfl
set_option maxRecDepth 100000 in
theorem lifted (os : Os) (started : os.Started) (H : Type) (enc : TypeId × Value → H) :
    ReturnsInHanded {} Try.checked os 4 .any (Rows.bitsAllSpec.pre6 enc Try.prog Try.f4 Rows.bitsAllRow.domain false) (Rows.bitsAllSpec.post enc Try.prog Try.f4 false true false false) := by
  refine returnsInHanded_of_change (C := Try.checked) own started (by kernel_rfl) Try.func4
    (ChangeSpec.witness6 (enc := enc) (C := Try.checked) false ⟨#[], #[.string ByteArray.empty, .int .u8 0], []⟩ 8 (by kernel_rfl) (by kernel_rfl) (by kernel_rfl) (by kernel_rfl)) ?_
  intro W base args ds gs before hval0 hW hcnd _
  have hval : ∀ (j : Nat) t v, Try.f4.params[j]? = some t → args[j]? = some v → Value.okWide Try.prog W .any base t v := hval0
  have hW' := hW
  obtain ⟨p, q, hA0, hV, rfl, hfz, hnd⟩ := hW
  have hA : DataW.TrodAll enc Try.prog W 0 (fun _ => true) true Try.f4.params.toList args.toList ds p := hA0
  rw [Try.params4] at hA hval
  obtain ⟨v0, vs0, d0, ds0, p0, q0, hargs, rfl, rfl, h0, r0⟩ := trodAll_cons hA
  obtain ⟨v1, vs1, d1, ds1, p1, q1, rfl, rfl, rfl, h1, r1⟩ := trodAll_cons r0
  obtain ⟨rfl, rfl, rfl⟩ := trodAll_nil r1
  obtain rfl : args = #[v0, v1] := by cases args; simp_all
  obtain ⟨rfl, rfl⟩ := trodVars_none hV
  obtain ⟨a0, rfl, rfl, rfl, w0⟩ := open_string Try.underlying9 (hval 0 9 v0 rfl rfl) h0
  obtain ⟨a1, rfl, rfl, rfl, w1⟩ := open_int Try.underlying5 (hval 1 5 v1 rfl rfl) h1
  clear hA0 hval0
  refine (walk a0 w0 a1 w1 W).mono fun e W' ⟨he, bel⟩ => ?_
  subst he
  exact ⟨_, rfl, _, _, _, [], _, [], hW', trodAll_mk1 (shut_bool Try.underlying4 _), (trodAll_cons_mk (shut_string Try.underlying9 w0) (trodAll_cons_mk (shut_int Try.underlying5 w1) trodAll_mk0)), rfl, bel.frame _, fun h => by cases h⟩
theorem over : Rows.bitsAllRow.holds Try.pinned (OpenSpec.ofChange Rows.bitsAllSpec) :=
  OpenClaim.holds_of_wide 4 Try.f4 rfl rfl rfl rfl rfl rfl rfl ⟨rfl, rfl, rfl, rfl, rfl⟩ rfl rfl rfl rfl rfl (by kernel_rfl) Try.func4 (by kernel_rfl)
    (of_decide_eq_true (by kernel_rfl)) (by unfold Func.isWrapper; first | (rw [if_pos (by decide +kernel)]; kernel_rfl) | (rw [if_neg (by decide +kernel)]; exact ⟨rfl, rfl⟩))
    (fun os started H enc _ => lifted os started H enc)
end Go.Proofs.Ytloafndmfeopgab.bitsAll
namespace Go.Proofs.Ytloafndmfeopgab
/-- The statement. -/
theorem bitsAll_holds : Rows.BitsAllSaid := bitsAll.over
#print axioms bitsAll_holds
end Go.Proofs.Ytloafndmfeopgab
