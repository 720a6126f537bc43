/- MasterStates: for every three bytes: one beat makes it sync, a second one in time; a watch undoes both; its own one makes it so at once; no condition. -/
import Derived.Test.YtimcjhnanjeloaaB22
import Derived.Test.YtimcjhnanjeloaaC22
import Derived.ProofKit
import Derived.OpenShut
import Derived.Deep.CutBlock
namespace Go.Proofs.Ytimcjhnanjeloaa.masterStates
open Go.ChangeShapes Go.WideShapes Go.ChangeAt Go.RowKit
set_option linter.unusedVariables false
variable {At : Ob.A Q22.St}
set_option maxRecDepth 100000 in
set_option maxHeartbeats 8000000 in
theorem walkA (S : MasterSpec At) (a0 : Int) (w0 : (Lit.int .u8 a0).wf = true) (a1 : Int) (w1 : (Lit.int .u8 a1).wf = true) (a2 : Int) (w2 : (Lit.int .u8 a2).wf = true) (W : World) : Calls Try.prog 6 #[.int .u8 a0, .int .u8 a1, .int .u8 a2] W fun e w' => e = .returned (.bool true) ∧ Below W.heap.size W w' := by
  obtain ⟨U, rfl, hU⟩ := natU8w w0
  obtain ⟨V, rfl, hV⟩ := natU8w w1
  obtain ⟨X, rfl, hX⟩ := natU8w w2
  obtain ⟨r, hr⟩ : ∃ r, U % 4 = r := ⟨_, rfl⟩
  have lr : r < 4 := by omega
  have tr : (U : Int).tmod 4 = (r : Int) := by rw [Int.tmod_eq_emod_of_nonneg (by omega)]; omega
  have er : (U : Int) % 4 = (r : Int) := by omega
  obtain ⟨a, ha⟩ : ∃ a, V % 4 = a := ⟨_, rfl⟩
  have la : a < 4 := by omega
  have ta : (V : Int).tmod 4 = (a : Int) := by rw [Int.tmod_eq_emod_of_nonneg (by omega)]; omega
  have ea : (V : Int) % 4 = (a : Int) := by omega
  obtain ⟨b, hb⟩ : ∃ b, X % 4 = b := ⟨_, rfl⟩
  have lb : b < 4 := by omega
  have tb : (X : Int).tmod 4 = (b : Int) := by rw [Int.tmod_eq_emod_of_nonneg (by omega)]; omega
  have eb : (X : Int) % 4 = (b : Int) := by omega
  have e1 : Q22.mk (r : Int) = ⟨(r : Int), 0, -1⟩ := by unfold Q22.mk; rw [show max (-1) (r : Int) = r by omega]
  have e3 : Q22.leads ⟨(r : Int), 1, (a : Int)⟩ = false := by unfold Q22.leads; simp
  have HW : Hid ((Lit.int .i64 (r : Int)).wf = true ∧ (Lit.int .i64 (a : Int)).wf = true ∧ (Lit.int .i64 (b : Int)).wf = true) := ⟨wf22 (by omega), wf22 (by omega), wf22 (by omega)⟩
  have HL : Hid (Q22.leads ⟨(r : Int), 2, (b : Int)⟩ = decide (r ≤ b)) := by show _ = _; unfold Q22.leads; simp
  have HS : Hid (Q22.sent ⟨(r : Int), 0, -1⟩ = ⟨(r : Int), 2, (r : Int)⟩) := by show _ = _; unfold Q22.sent; simp
  have HL2 : Hid (Q22.leads ⟨(r : Int), 2, (r : Int)⟩ = true) := by show _ = _; unfold Q22.leads; simp
  clear hr ha hb lr la lb w0 w1 w2
  go_enter Try.func6, Try.ntmps6
  go_wp2_with fail
  refine (known22_any S _).mono ?_
  rintro e w1 ⟨rfl, hb⟩
  have HB : Hid (Below W.heap.size W w1) := hb
  clear hb
  go_wp2_with fail
  refine (Oq.O1.make (S.new w1 (r : Int) HW.out.1) HB.out).mono ?_
  rintro e w2 ⟨p, rfl, hq⟩
  rw [e1] at hq
  have HO : Hid (Oq.O1 At W w2 p ⟨(r : Int), 0, -1⟩ []) := hq
  clear hq HB e1
  go_wp2_with fail
  refine (HO.out.look S.is (fun F hF => S.state _ p F _ hF)).mono ?_
  rintro e w3 ⟨rfl, hq⟩
  replace HO : Hid (Oq.O1 At W w3 p _ []) := hq
  clear hq
  dsimp only
  go_wp2_with fail
  refine (HO.out.turn (fun F hF => S.beat _ p F _ _ HW.out.2.1 hF)).mono ?_
  rintro e w4 ⟨rfl, hq⟩
  replace HO : Hid (Oq.O1 At W w4 p ⟨(r : Int), 1, (a : Int)⟩ []) := hq
  clear hq
  go_wp2_with fail
  refine (HO.out.look S.is (fun F hF => S.state _ p F _ hF)).mono ?_
  rintro e w5 ⟨rfl, hq⟩
  replace HO : Hid (Oq.O1 At W w5 p _ []) := hq
  clear hq
  dsimp only
  go_wp2_with fail
  refine (HO.out.look S.is (fun F hF => S.leads _ p F _ hF)).mono ?_
  rintro e w6 ⟨rfl, hq⟩
  replace HO : Hid (Oq.O1 At W w6 p _ []) := hq
  clear hq
  rw [e3]
  clear e3
  go_wp2_with fail
  refine (HO.out.turn (fun F hF => S.beat _ p F _ _ HW.out.2.2 hF)).mono ?_
  rintro e w7 ⟨rfl, hq⟩
  replace HO : Hid (Oq.O1 At W w7 p ⟨(r : Int), 2, (b : Int)⟩ []) := hq
  clear hq
  go_wp2_with fail
  refine (HO.out.look S.is (fun F hF => S.state _ p F _ hF)).mono ?_
  rintro e w8 ⟨rfl, hq⟩
  replace HO : Hid (Oq.O1 At W w8 p _ []) := hq
  clear hq
  dsimp only
  go_wp2_with fail
  refine (HO.out.look S.is (fun F hF => S.leads _ p F _ hF)).mono ?_
  rintro e w9 ⟨rfl, hq⟩
  replace HO : Hid (Oq.O1 At W w9 p _ []) := hq
  clear hq
  rw [HL.out]
  go_wp2_with fail
  refine (HO.out.turn (fun F hF => S.watch _ p F _ hF)).mono ?_
  rintro e w10 ⟨rfl, hq⟩
  replace HO : Hid (Oq.O1 At W w10 p ⟨(r : Int), 0, -1⟩ []) := hq
  clear hq
  go_wp2_with fail
  refine (HO.out.look S.is (fun F hF => S.state _ p F _ hF)).mono ?_
  rintro e w11 ⟨rfl, hq⟩
  replace HO : Hid (Oq.O1 At W w11 p _ []) := hq
  clear hq
  dsimp only
  go_wp2_with fail
  refine (HO.out.turn (fun F hF => S.sent _ p F _ hF)).mono ?_
  rintro e w12 ⟨rfl, hq⟩
  rw [HS.out] at hq
  replace HO : Hid (Oq.O1 At W w12 p ⟨(r : Int), 2, (r : Int)⟩ []) := hq
  clear hq HS HL
  by_cases hrb : r ≤ b
  · have hrbi : (r : Int) ≤ (b : Int) := by omega
    have d1 : decide (r ≤ b) = true := decide_eq_true hrb
    have d2 : decide ((r : Int) ≤ (b : Int)) = true := decide_eq_true hrbi
    rw [d1]
    clear hrb
    go_wp2_with fail
    refine (HO.out.look S.is (fun F hF => S.state _ p F _ hF)).mono ?_
    rintro e w13 ⟨rfl, hq⟩
    replace HO : Hid (Oq.O1 At W w13 p _ []) := hq
    clear hq
    go_wp2_with fail
    refine (HO.out.look S.is (fun F hF => S.leads _ p F _ hF)).mono ?_
    rintro e w14 ⟨rfl, hq⟩
    replace HO : Hid (Oq.O1 At W w14 p _ []) := hq
    rw [HL2.out]
    clear hq
    go_wp2_with fail
    refine (HO.out.look S.is (fun F hF => S.leader _ p F _ hF)).mono ?_
    rintro e w15 ⟨rfl, hq⟩
    have HBz : Hid (Below W.heap.size W w15) := hq.bel
    clear hq HO
    go_wp2
    go_ret
    exact ⟨rfl, HBz.out⟩
  · have hrbi : ¬ ((r : Int) ≤ (b : Int)) := by omega
    have d1 : decide (r ≤ b) = false := decide_eq_false hrb
    have d2 : decide ((r : Int) ≤ (b : Int)) = false := decide_eq_false hrbi
    rw [d1]
    clear hrb
    go_wp2_with fail
    refine (HO.out.look S.is (fun F hF => S.state _ p F _ hF)).mono ?_
    rintro e w13 ⟨rfl, hq⟩
    replace HO : Hid (Oq.O1 At W w13 p _ []) := hq
    clear hq
    go_wp2_with fail
    refine (HO.out.look S.is (fun F hF => S.leads _ p F _ hF)).mono ?_
    rintro e w14 ⟨rfl, hq⟩
    replace HO : Hid (Oq.O1 At W w14 p _ []) := hq
    rw [HL2.out]
    clear hq
    go_wp2_with fail
    refine (HO.out.look S.is (fun F hF => S.leader _ p F _ hF)).mono ?_
    rintro e w15 ⟨rfl, hq⟩
    have HBz : Hid (Below W.heap.size W w15) := hq.bel
    clear hq HO
    go_wp2
    go_ret
    exact ⟨rfl, HBz.out⟩
end Go.Proofs.Ytimcjhnanjeloaa.masterStates
