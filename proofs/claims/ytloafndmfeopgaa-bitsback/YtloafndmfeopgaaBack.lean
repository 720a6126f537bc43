/- BitsBack: numbers and bytes as bits are read as they were, for every number and every text of at most 60 bytes (longer ones are let by); a bit turned twice is as it was; no condition. -/
import Derived.Test.YtloafndmfeopgaaRows
import Derived.Test.YtloafndmfeopgaaLc
import Derived.Test.YtloafndmfeopgaaBm4
import Derived.WalkKit
import Derived.ProofKit
import Derived.OpenShut
import Derived.ShutString
namespace Go.Proofs.Ytloafndmfeopgaa.bitsBack
open Go.ChangeShapes Go.WideShapes Go.ChangeAt Go.RowKit
open Go.ChangeMaps (open_string shut_string)
set_option linter.unusedVariables false
set_option maxRecDepth 100000 in
set_option maxHeartbeats 1000000 in
theorem walk (a0 : Int) (w0 : (Lit.int .u64 a0).wf = true) (a1 : ByteArray) (w1 : a1.size ≤ maxLen) (a2 : Int) (w2 : (Lit.int .u8 a2).wf = true) (w : World) :
    Calls Try.prog 7 #[.int .u64 a0, .string a1, .int .u8 a2] w fun e w' => e = .returned (.bool true) ∧ Below w.heap.size w w' := by
  obtain ⟨a, rfl, ha⟩ := u64_nat w0
  obtain ⟨c, rfl, hc⟩ := u8_nat w2
  clear w0 w2
  unfold maxLen at w1
  by_cases hlen : 60 < a1.size
  · go_enter Try.func7, Try.ntmps7
    go_wp2_with fail
    refine (known_any _).mono ?_; rintro e w1 ⟨rfl, hb1⟩
    go_wp2_with fail
    go_ret
    exact ⟨rfl, hb1⟩
  · have hlr := Bm.length_row
    have hlo := Bm.length_ofB
    have hL : (Bm.ofB a 64).length = 64 := Bm.length_ofB _ _
    have hlf : (Bm.fromB a1.data.toList).length ≤ 480 := by
      rw [Bm.length_fromB]
      have : a1.data.toList.length = a1.size := by simp
      omega
    have HN : Hid (_) := Bm.num_ofB_64 a ha
    have HBy : Hid (_) := Bm.bytes_fromB a1.data.toList
    have HTT : Hid (_) := Bm.turn_turn (Bm.ofB a 64) ((c : Int) % 64)
    have HNT := Bm.num_turn a (c % 64) (by omega) ha
    rw [show ((c % 64 : Nat) : Int) = (c : Int) % 64 from by omega] at HNT
    have HBo : Hid (_) := Bm.both_self (Bm.ofB a 64)
    have HT64 : Hid (_) := Bm.turn_high (Bm.ofB a 64) 64 (by omega)
    have HTm : Hid (_) := Bm.turn_low (Bm.ofB a 64) (-1) (by omega)
    have HNT' : Hid (_) := HNT
    have hX : bits .xor .u64 (a : Int) (IntKind.u64.wrap (2 ^ (63 - c % 64))) = ((a ^^^ 2 ^ (63 - c % 64) : Nat) : Int) := by
      have hp : 2 ^ (63 - c % 64) < 2 ^ 64 := Nat.pow_lt_pow_right (by decide) (by omega)
      have h3 : (2 : Nat) ^ 64 = 18446744073709551616 := by decide
      have e : ((2 : Int) ^ (63 - c % 64)) = ((2 ^ (63 - c % 64) : Nat) : Int) := by simp
      rw [IntKind.wrap_u64, e]
      generalize 2 ^ (63 - c % 64) = z at *
      rw [show ((z : Int) % 18446744073709551616) = (z : Int) from by omega]
      exact u64_xor_nat _ _ ha (by omega)
    clear HNT
    have hlt : (Bm.turn (Bm.ofB a 64) ((c : Int) % 64)).length = 64 := by rw [Bm.length_turn, hL]
    go_enter Try.func7, Try.ntmps7
    go_wp2_with fail
    refine (known_any _).mono ?_; rintro e w1 ⟨rfl, hb1⟩
    go_wp2_with fail
    refine (of_nat a 64 (by omega) _ (by omega) _).mono ?_; rintro e w2 ⟨rfl, hb2⟩
    go_wp2_with fail
    refine (turn_row _ _ _ (by omega)).mono ?_; rintro e w3 ⟨rfl, hb3⟩
    go_wp2_with fail
    refine (num_row _ _ (by omega)).mono ?_; rintro e w4 ⟨rfl, rfl⟩
    rw [HN.out]
    go_wp2_with fail
    refine (from_any a1 _ (by omega)).mono ?_; rintro e w5 ⟨rfl, hb5⟩
    go_wp2_with fail
    refine (bytes_row _ _ (by omega)).mono ?_; rintro e w6 ⟨rfl, hb6⟩
    rw [HBy.out]
    go_wp2_with fail
    refine (turn_row _ _ _ (by omega)).mono ?_; rintro e w7 ⟨rfl, hb7⟩
    rw [HTT.out]
    go_wp2_with fail
    refine (num_row _ _ (by omega)).mono ?_; rintro e w8 ⟨rfl, rfl⟩
    rw [HNT'.out]
    go_wp2_with fail
    refine (and_row _ _ _ (by omega)).mono ?_; rintro e w9 ⟨rfl, hb9⟩
    rw [HBo.out]
    go_wp2_with fail
    refine (turn_row _ _ _ (by omega)).mono ?_; rintro e w10 ⟨rfl, hb10⟩
    rw [HT64.out]
    go_wp2_with fail
    refine (turn_row _ _ _ (by omega)).mono ?_; rintro e w11 ⟨rfl, hb11⟩
    rw [HTm.out]
    go_wp2_with fail
    go_ret
    exact ⟨rfl, below_join (below_join (below_join (below_join (below_join (below_join (below_join (below_join hb1 hb2) hb3) hb5) hb6) hb7) hb9) hb10) hb11⟩
theorem own : ownKnob Try.prog.godebug = none := by kernel_rfl
set_option maxRecDepth 100000 in
theorem lifted (os : Os) (started : os.Started) (H : Type) (enc : TypeId × Value → H) :
    ReturnsInHanded {} Try.checked os 7 .any (Rows.bitsBackSpec.pre6 enc Try.prog Try.f7 Rows.bitsBackRow.domain false) (Rows.bitsBackSpec.post enc Try.prog Try.f7 false true false false) := by
  refine returnsInHanded_of_change (C := Try.checked) own started (by kernel_rfl) Try.func7
    (ChangeSpec.witness6 (enc := enc) (C := Try.checked) false ⟨#[], #[.int .u64 0, .string ByteArray.empty, .int .u8 0], []⟩ 8 (by kernel_rfl) (by kernel_rfl) (by kernel_rfl) (by kernel_rfl)) ?_
  intro W base args ds gs before hval0 hW hcnd _
  have hval : ∀ (j : Nat) t v, Try.f7.params[j]? = some t → args[j]? = some v → Value.okWide Try.prog W .any base t v := hval0
  have hW' := hW
  obtain ⟨p, q, hA0, hV, rfl, hfz, hnd⟩ := hW
  have hA : DataW.TrodAll enc Try.prog W 0 (fun _ => true) true Try.f7.params.toList args.toList ds p := hA0
  rw [Try.params7] at hA hval
  obtain ⟨v0, vs0, d0, ds0, p0, q0, hargs, rfl, rfl, h0, r0⟩ := trodAll_cons hA
  obtain ⟨v1, vs1, d1, ds1, p1, q1, rfl, rfl, rfl, h1, r1⟩ := trodAll_cons r0
  obtain ⟨v2, vs2, d2, ds2, p2, q2, rfl, rfl, rfl, h2, r2⟩ := trodAll_cons r1
  obtain ⟨rfl, rfl, rfl⟩ := trodAll_nil r2
  obtain rfl : args = #[v0, v1, v2] := by cases args; simp_all
  obtain ⟨rfl, rfl⟩ := trodVars_none hV
  obtain ⟨a0, rfl, rfl, rfl, w0⟩ := open_int Try.underlying22 (hval 0 22 v0 rfl rfl) h0
  obtain ⟨a1, rfl, rfl, rfl, w1⟩ := open_string Try.underlying9 (hval 1 9 v1 rfl rfl) h1
  obtain ⟨a2, rfl, rfl, rfl, w2⟩ := open_int Try.underlying5 (hval 2 5 v2 rfl rfl) h2
  clear hA0 hval0
  refine (walk a0 w0 a1 w1 a2 w2 W).mono fun e W' ⟨he, bel⟩ => ?_
  subst he
  exact ⟨_, rfl, _, _, _, [], _, [], hW', trodAll_mk1 (shut_bool Try.underlying4 _), (trodAll_cons_mk (shut_int Try.underlying22 w0) (trodAll_cons_mk (shut_string Try.underlying9 w1) (trodAll_cons_mk (shut_int Try.underlying5 w2) trodAll_mk0))), rfl, bel.frame _, fun h => by cases h⟩
theorem over : Rows.bitsBackRow.holds Try.pinned (OpenSpec.ofChange Rows.bitsBackSpec) :=
  OpenClaim.holds_of_wide 7 Try.f7 rfl rfl rfl rfl rfl rfl rfl ⟨rfl, rfl, rfl, rfl, rfl⟩ rfl rfl rfl rfl rfl (by kernel_rfl) Try.func7 (by kernel_rfl)
    (of_decide_eq_true (by kernel_rfl)) (by unfold Func.isWrapper; first | (rw [if_pos (by decide +kernel)]; kernel_rfl) | (rw [if_neg (by decide +kernel)]; exact ⟨rfl, rfl⟩))
    (fun os started H enc _ => lifted os started H enc)
end Go.Proofs.Ytloafndmfeopgaa.bitsBack
namespace Go.Proofs.Ytloafndmfeopgaa
/-- The statement. -/
theorem bitsBack_holds : Rows.BitsBackSaid := bitsBack.over
#print axioms bitsBack_holds
end Go.Proofs.Ytloafndmfeopgaa
