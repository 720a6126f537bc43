/- BitsOne: in every row of 127 bits one bit turned changes the sum, and no two places change it alike; no condition. -/
import Derived.Test.YtloafndmfeopgaaRows
import Derived.Test.YtloafndmfeopgaaLc
import Derived.Test.YtloafndmfeopgaaBm4
import Derived.WalkKit
import Derived.ProofKit
import Derived.OpenShut
import Derived.ShutString
namespace Go.Proofs.Ytloafndmfeopgaa.bitsOne
open Go.ChangeShapes Go.WideShapes Go.ChangeAt Go.RowKit
open Go.ChangeMaps (open_string shut_string)
set_option linter.unusedVariables false
set_option maxRecDepth 100000 in
set_option maxHeartbeats 1000000 in
theorem walk (a0 : Int) (w0 : (Lit.int .u64 a0).wf = true) (a1 : Int) (w1 : (Lit.int .u64 a1).wf = true) (a2 : Int) (w2 : (Lit.int .u8 a2).wf = true) (a3 : Int) (w3 : (Lit.int .u8 a3).wf = true) (w : World) :
    Calls Try.prog 8 #[.int .u64 a0, .int .u64 a1, .int .u8 a2, .int .u8 a3] w fun e w' => e = .returned (.bool true) ∧ Below w.heap.size w w' := by
  obtain ⟨a, rfl, ha⟩ := u64_nat w0
  obtain ⟨b, rfl, hb⟩ := u64_nat w1
  obtain ⟨c, rfl, hc⟩ := u8_nat w2
  obtain ⟨d, rfl, hd⟩ := u8_nat w3
  clear w0 w1 w2 w3
  have hcat := cat_row
  have hlr := Bm.length_row
  have hlo := Bm.length_ofB
  have hL : (Bm.ofB a 63 ++ Bm.ofB b 64).length = 127 := by
    rw [List.length_append, Bm.length_ofB, Bm.length_ofB]
  have X := Bm.crc_turn (Bm.ofB a 63 ++ Bm.ofB b 64) (c % 127)
  have Y := Bm.crc_turn (Bm.ofB a 63 ++ Bm.ofB b 64) (d % 127)
  rw [hL] at X Y
  rw [show ((c % 127 : Nat) : Int) = (c : Int) % 127 from by omega] at X
  rw [show ((d % 127 : Nat) : Int) = (d : Int) % 127 from by omega] at Y
  have t1 : (((Bm.crc (Bm.turn (Bm.ofB a 63 ++ Bm.ofB b 64) ((c : Int) % 127)) : Nat) : Int) != ((Bm.crc (Bm.ofB a 63 ++ Bm.ofB b 64) : Nat) : Int)) = true := by
    rw [bne_iff_ne]
    intro e
    have e' : Bm.crc (Bm.turn (Bm.ofB a 63 ++ Bm.ofB b 64) ((c : Int) % 127)) = Bm.crc (Bm.ofB a 63 ++ Bm.ofB b 64) := by omega
    rw [X] at e'
    have e2 : Bm.crc (Bm.ofB a 63 ++ Bm.ofB b 64) ^^^ Bm.crc (Bm.unit 127 (c % 127)) = Bm.crc (Bm.ofB a 63 ++ Bm.ofB b 64) ^^^ 0 := by rw [e', Nat.xor_zero]
    exact Bm.unit_ne _ (by omega) ((Bm.xor_cancel _ _ _).1 e2)
  have T2 : Hid (((((Bm.crc (Bm.turn (Bm.ofB a 63 ++ Bm.ofB b 64) ((c : Int) % 127)) : Nat) : Int) == ((Bm.crc (Bm.turn (Bm.ofB a 63 ++ Bm.ofB b 64) ((d : Int) % 127)) : Nat) : Int)) == ((c : Int) % 127 == (d : Int) % 127)) = true) := by
    show _ = _
    rw [beq_iff_eq, Bool.eq_iff_iff, beq_iff_eq, beq_iff_eq]
    constructor
    · intro e
      have e' : Bm.crc (Bm.turn (Bm.ofB a 63 ++ Bm.ofB b 64) ((c : Int) % 127)) = Bm.crc (Bm.turn (Bm.ofB a 63 ++ Bm.ofB b 64) ((d : Int) % 127)) := by omega
      rw [X, Y] at e'
      have h := Bm.unit_inj _ _ (by omega) (by omega) ((Bm.xor_cancel _ _ _).1 e')
      omega
    · intro e
      rw [e]
  clear X Y
  generalize hr : Bm.ofB a 63 ++ Bm.ofB b 64 = r at *
  have hlx : (Bm.turn r ((c : Int) % 127)).length = 127 := by rw [Bm.length_turn, hL]
  have hly : (Bm.turn r ((d : Int) % 127)).length = 127 := by rw [Bm.length_turn, hL]
  go_enter Try.func8, Try.ntmps8
  go_wp2_with fail
  refine (known_any _).mono ?_; rintro e w1 ⟨rfl, hb1⟩
  go_wp2_with fail
  refine (of_nat a 63 (by omega) _ (by omega) _).mono ?_; rintro e w2 ⟨rfl, hb2⟩
  go_wp2_with fail
  refine (of_nat b 64 (by omega) _ (by omega) _).mono ?_; rintro e w3 ⟨rfl, hb3⟩
  go_wp2_with fail
  refine (turn_row r _ _ (by omega)).mono ?_; rintro e w4 ⟨rfl, hb4⟩
  go_wp2_with fail
  refine (crc_row _ _ (by omega)).mono ?_; rintro e w5 ⟨rfl, rfl⟩
  go_wp2_with fail
  refine (turn_row r _ _ (by omega)).mono ?_; rintro e w6 ⟨rfl, hb6⟩
  go_wp2_with fail
  refine (crc_row _ _ (by omega)).mono ?_; rintro e w7 ⟨rfl, rfl⟩
  go_wp2_with fail
  refine (crc_row r _ (by omega)).mono ?_; rintro e w8 ⟨rfl, rfl⟩
  go_wp2_with fail
  go_ret
  refine ⟨?_, below_join (below_join (below_join (below_join hb1 hb2) hb3) hb4) hb6⟩
  exact ret_bool T2.out
theorem own : ownKnob Try.prog.godebug = none := by kernel_rfl
set_option maxRecDepth 100000 in
theorem lifted (os : Os) (started : os.Started) (H : Type) (enc : TypeId × Value → H) :
    ReturnsInHanded {} Try.checked os 8 .any (Rows.bitsOneSpec.pre6 enc Try.prog Try.f8 Rows.bitsOneRow.domain false) (Rows.bitsOneSpec.post enc Try.prog Try.f8 false true false false) := by
  refine returnsInHanded_of_change (C := Try.checked) own started (by kernel_rfl) Try.func8
    (ChangeSpec.witness6 (enc := enc) (C := Try.checked) false ⟨#[], #[.int .u64 0, .int .u64 0, .int .u8 0, .int .u8 0], []⟩ 8 (by kernel_rfl) (by kernel_rfl) (by kernel_rfl) (by kernel_rfl)) ?_
  intro W base args ds gs before hval0 hW hcnd _
  have hval : ∀ (j : Nat) t v, Try.f8.params[j]? = some t → args[j]? = some v → Value.okWide Try.prog W .any base t v := hval0
  have hW' := hW
  obtain ⟨p, q, hA0, hV, rfl, hfz, hnd⟩ := hW
  have hA : DataW.TrodAll enc Try.prog W 0 (fun _ => true) true Try.f8.params.toList args.toList ds p := hA0
  rw [Try.params8] at hA hval
  obtain ⟨v0, vs0, d0, ds0, p0, q0, hargs, rfl, rfl, h0, r0⟩ := trodAll_cons hA
  obtain ⟨v1, vs1, d1, ds1, p1, q1, rfl, rfl, rfl, h1, r1⟩ := trodAll_cons r0
  obtain ⟨v2, vs2, d2, ds2, p2, q2, rfl, rfl, rfl, h2, r2⟩ := trodAll_cons r1
  obtain ⟨v3, vs3, d3, ds3, p3, q3, rfl, rfl, rfl, h3, r3⟩ := trodAll_cons r2
  obtain ⟨rfl, rfl, rfl⟩ := trodAll_nil r3
  obtain rfl : args = #[v0, v1, v2, v3] := by cases args; simp_all
  obtain ⟨rfl, rfl⟩ := trodVars_none hV
  obtain ⟨a0, rfl, rfl, rfl, w0⟩ := open_int Try.underlying22 (hval 0 22 v0 rfl rfl) h0
  obtain ⟨a1, rfl, rfl, rfl, w1⟩ := open_int Try.underlying22 (hval 1 22 v1 rfl rfl) h1
  obtain ⟨a2, rfl, rfl, rfl, w2⟩ := open_int Try.underlying5 (hval 2 5 v2 rfl rfl) h2
  obtain ⟨a3, rfl, rfl, rfl, w3⟩ := open_int Try.underlying5 (hval 3 5 v3 rfl rfl) h3
  clear hA0 hval0
  refine (walk a0 w0 a1 w1 a2 w2 a3 w3 W).mono fun e W' ⟨he, bel⟩ => ?_
  subst he
  exact ⟨_, rfl, _, _, _, [], _, [], hW', trodAll_mk1 (shut_bool Try.underlying4 _), (trodAll_cons_mk (shut_int Try.underlying22 w0) (trodAll_cons_mk (shut_int Try.underlying22 w1) (trodAll_cons_mk (shut_int Try.underlying5 w2) (trodAll_cons_mk (shut_int Try.underlying5 w3) trodAll_mk0)))), rfl, bel.frame _, fun h => by cases h⟩
theorem over : Rows.bitsOneRow.holds Try.pinned (OpenSpec.ofChange Rows.bitsOneSpec) :=
  OpenClaim.holds_of_wide 8 Try.f8 rfl rfl rfl rfl rfl rfl rfl ⟨rfl, rfl, rfl, rfl, rfl⟩ rfl rfl rfl rfl rfl (by kernel_rfl) Try.func8 (by kernel_rfl)
    (of_decide_eq_true (by kernel_rfl)) (by unfold Func.isWrapper; first | (rw [if_pos (by decide +kernel)]; kernel_rfl) | (rw [if_neg (by decide +kernel)]; exact ⟨rfl, rfl⟩))
    (fun os started H enc _ => lifted os started H enc)
end Go.Proofs.Ytloafndmfeopgaa.bitsOne
namespace Go.Proofs.Ytloafndmfeopgaa
/-- The statement. -/
theorem bitsOne_holds : Rows.BitsOneSaid := bitsOne.over
#print axioms bitsOne_holds
end Go.Proofs.Ytloafndmfeopgaa
