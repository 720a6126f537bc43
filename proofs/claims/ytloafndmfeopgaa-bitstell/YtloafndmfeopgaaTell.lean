/- BitsTell: of every two texts of at most 300 bytes (longer ones are let by), every number, width and place, each call of package bits answers what the document's own bits answer; no condition. -/
import Derived.Test.YtloafndmfeopgaaRows
import Derived.Test.YtloafndmfeopgaaLc
import Derived.Test.YtloafndmfeopgaaR1
import Derived.Test.YtloafndmfeopgaaR2
import Derived.WalkKit
import Derived.ProofKit
import Derived.OpenShut
import Derived.ShutString
namespace Go.Proofs.Ytloafndmfeopgaa.bitsTell
open Go.ChangeShapes Go.WideShapes Go.ChangeAt Go.RowKit
open Go.ChangeMaps (open_string shut_string)
set_option linter.unusedVariables false
set_option maxRecDepth 100000 in
set_option maxHeartbeats 1000000 in
theorem walk (a0 : ByteArray) (w0 : a0.size ≤ maxLen) (a1 : ByteArray) (w1 : a1.size ≤ maxLen) (a2 : Int) (w2 : (Lit.int .u64 a2).wf = true) (a3 : Int) (w3 : (Lit.int .i64 a3).wf = true) (a4 : Int) (w4 : (Lit.int .i64 a4).wf = true) (w : World) :
    Calls Try.prog 3 #[.string a0, .string a1, .int .u64 a2, .int .i64 a3, .int .i64 a4] w fun e w' => e = .returned (.bool true) ∧ Below w.heap.size w w' := by
  obtain ⟨n, rfl, hn⟩ := u64_nat w2
  have hm0 := w0
  have hm1 := w1
  unfold maxLen at hm0 hm1
  clear w2 w3 w4
  by_cases hlen : 300 < a0.size
  · go_enter Try.func3, Try.ntmps3
    go_wp2_with fail
    refine (known_any _).mono ?_; rintro e w1 ⟨rfl, hb1⟩
    go_wp2_with fail
    go_ret
    exact ⟨rfl, hb1⟩
  · by_cases hlen1 : 300 < a1.size
    · go_enter Try.func3, Try.ntmps3
      go_wp2_with fail
      refine (known_any _).mono ?_; rintro e w1 ⟨rfl, hb1⟩
      go_wp2_with fail
      go_ret
      exact ⟨rfl, hb1⟩
    · go_enter Try.func3, Try.ntmps3
      go_wp2_with fail
      refine (known_any _).mono ?_; rintro e w1 ⟨rfl, hb1⟩
      go_wp2_with fail
      refine (is_any a0 _ w0).mono ?_; rintro e w2 ⟨rfl, rfl⟩
      go_wp2_with fail
      refine (refIs_any a0 _ w0).mono ?_; rintro e w3 ⟨rfl, rfl⟩
      go_wp2_with fail
      refine (of_any n a3 _).mono ?_; rintro e w4 ⟨rfl, hb4⟩
      go_wp2_with fail
      refine (refOf_any n a3 _ hn).mono ?_; rintro e w5 ⟨rfl, rfl⟩
      go_wp2_with fail
      refine (num_any a0 _ w0).mono ?_; rintro e w6 ⟨rfl, rfl⟩
      go_wp2_with fail
      refine (refNum_any a0 _ w0).mono ?_; rintro e w7 ⟨rfl, rfl⟩
      go_wp2_with fail
      refine (and_any a0 a1 _ (by omega)).mono ?_; rintro e w8 ⟨rfl, hb8⟩
      go_wp2_with fail
      refine (refAnd_any a0 a1 _ (by omega)).mono ?_; rintro e w9 ⟨rfl, rfl⟩
      go_wp2_with fail
      refine (turn_any a0 a4 _ (by omega)).mono ?_; rintro e w10 ⟨rfl, hb10⟩
      go_wp2_with fail
      refine (refTurn_any a0 a4 _ (by omega)).mono ?_; rintro e w11 ⟨rfl, rfl⟩
      go_wp2_with fail
      refine (from_any a1 _ (by omega)).mono ?_; rintro e w12 ⟨rfl, hb12⟩
      go_wp2_with fail
      refine (refFrom_any a1 _ (by omega)).mono ?_; rintro e w13 ⟨rfl, rfl⟩
      go_wp2_with fail
      refine (bytes_any a0 _ (by omega)).mono ?_; rintro e w14 ⟨rfl, hb14⟩
      go_wp2_with fail
      refine (refBytes_any a0 _ (by omega)).mono ?_; rintro e w15 ⟨rfl, hb15⟩
      go_wp2_with fail
      go_ret
      exact ⟨rfl, below_join (below_join (below_join (below_join (below_join (below_join hb1 hb4) hb8) hb10) hb12) hb14) hb15⟩
theorem own : ownKnob Try.prog.godebug = none := by kernel_rfl
set_option maxRecDepth 100000 in
theorem lifted (os : Os) (started : os.Started) (H : Type) (enc : TypeId × Value → H) :
    ReturnsInHanded {} Try.checked os 3 .any (Rows.bitsTellSpec.pre6 enc Try.prog Try.f3 Rows.bitsTellRow.domain false) (Rows.bitsTellSpec.post enc Try.prog Try.f3 false true false false) := by
  refine returnsInHanded_of_change (C := Try.checked) own started (by kernel_rfl) Try.func3
    (ChangeSpec.witness6 (enc := enc) (C := Try.checked) false ⟨#[], #[.string ByteArray.empty, .string ByteArray.empty, .int .u64 0, .int .i64 0, .int .i64 0], []⟩ 8 (by kernel_rfl) (by kernel_rfl) (by kernel_rfl) (by kernel_rfl)) ?_
  intro W base args ds gs before hval0 hW hcnd _
  have hval : ∀ (j : Nat) t v, Try.f3.params[j]? = some t → args[j]? = some v → Value.okWide Try.prog W .any base t v := hval0
  have hW' := hW
  obtain ⟨p, q, hA0, hV, rfl, hfz, hnd⟩ := hW
  have hA : DataW.TrodAll enc Try.prog W 0 (fun _ => true) true Try.f3.params.toList args.toList ds p := hA0
  rw [Try.params3] at hA hval
  obtain ⟨v0, vs0, d0, ds0, p0, q0, hargs, rfl, rfl, h0, r0⟩ := trodAll_cons hA
  obtain ⟨v1, vs1, d1, ds1, p1, q1, rfl, rfl, rfl, h1, r1⟩ := trodAll_cons r0
  obtain ⟨v2, vs2, d2, ds2, p2, q2, rfl, rfl, rfl, h2, r2⟩ := trodAll_cons r1
  obtain ⟨v3, vs3, d3, ds3, p3, q3, rfl, rfl, rfl, h3, r3⟩ := trodAll_cons r2
  obtain ⟨v4, vs4, d4, ds4, p4, q4, rfl, rfl, rfl, h4, r4⟩ := trodAll_cons r3
  obtain ⟨rfl, rfl, rfl⟩ := trodAll_nil r4
  obtain rfl : args = #[v0, v1, v2, v3, v4] := by cases args; simp_all
  obtain ⟨rfl, rfl⟩ := trodVars_none hV
  obtain ⟨a0, rfl, rfl, rfl, w0⟩ := open_string Try.underlying9 (hval 0 9 v0 rfl rfl) h0
  obtain ⟨a1, rfl, rfl, rfl, w1⟩ := open_string Try.underlying9 (hval 1 9 v1 rfl rfl) h1
  obtain ⟨a2, rfl, rfl, rfl, w2⟩ := open_int Try.underlying22 (hval 2 22 v2 rfl rfl) h2
  obtain ⟨a3, rfl, rfl, rfl, w3⟩ := open_int Try.underlying3 (hval 3 3 v3 rfl rfl) h3
  obtain ⟨a4, rfl, rfl, rfl, w4⟩ := open_int Try.underlying3 (hval 4 3 v4 rfl rfl) h4
  clear hA0 hval0
  refine (walk a0 w0 a1 w1 a2 w2 a3 w3 a4 w4 W).mono fun e W' ⟨he, bel⟩ => ?_
  subst he
  exact ⟨_, rfl, _, _, _, [], _, [], hW', trodAll_mk1 (shut_bool Try.underlying4 _), (trodAll_cons_mk (shut_string Try.underlying9 w0) (trodAll_cons_mk (shut_string Try.underlying9 w1) (trodAll_cons_mk (shut_int Try.underlying22 w2) (trodAll_cons_mk (shut_int Try.underlying3 w3) (trodAll_cons_mk (shut_int Try.underlying3 w4) trodAll_mk0))))), rfl, bel.frame _, fun h => by cases h⟩
theorem over : Rows.bitsTellRow.holds Try.pinned (OpenSpec.ofChange Rows.bitsTellSpec) :=
  OpenClaim.holds_of_wide 3 Try.f3 rfl rfl rfl rfl rfl rfl rfl ⟨rfl, rfl, rfl, rfl, rfl⟩ rfl rfl rfl rfl rfl (by kernel_rfl) Try.func3 (by kernel_rfl)
    (of_decide_eq_true (by kernel_rfl)) (by unfold Func.isWrapper; first | (rw [if_pos (by decide +kernel)]; kernel_rfl) | (rw [if_neg (by decide +kernel)]; exact ⟨rfl, rfl⟩))
    (fun os started H enc _ => lifted os started H enc)
end Go.Proofs.Ytloafndmfeopgaa.bitsTell
namespace Go.Proofs.Ytloafndmfeopgaa
/-- The statement. -/
theorem bitsTell_holds : Rows.BitsTellSaid := bitsTell.over
#print axioms bitsTell_holds
end Go.Proofs.Ytloafndmfeopgaa
