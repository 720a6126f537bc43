/- Layer 22: law 22's own known. -/
import Derived.Test.YtimcjhnanjeloaaA22
import Derived.ProofKit
import Derived.OpenShut
import Derived.Deep.CutBlock
namespace Go.Proofs.Ytimcjhnanjeloaa
open Go.RowKit Go.WideShapes
set_option linter.unusedVariables false
set_option maxRecDepth 100000 in
set_option maxHeartbeats 8000000 in
theorem known22_any {At : Ob.A Q22.St} (S : MasterSpec At) (W : World) : Calls Try.prog 7 #[] W fun e w' => e = .returned (.bool true) ∧ Below W.heap.size W w' := by
  go_enter Try.func7, Try.ntmps7
  go_wp2_with fail
  refine (Oq.O1.make (S.new W 0 (by decide)) (Below.refl _ _)).mono ?_
  rintro e w1 ⟨p, rfl, hq⟩
  have HO : Hid (Oq.O1 At W w1 p (Q22.mk 0) []) := hq
  clear hq
  have e1 : Q22.leads (Q22.mk 0) = false := by decide
  have e2 : Q22.stands (Q22.mk 0) = true := by decide
  have e3 : (Q22.mk 0).lead = -1 := by decide
  have e4 : Q22.stands (Q22.mk (-1)) = false := by decide
  have e5 : (Q22.beat (Q22.mk 0) 2).st = 1 := by decide
  have e6 : Q22.leads (Q22.beat (Q22.beat (Q22.mk 0) 2) 2) = true := by decide
  have e7 : (Q22.watch (Q22.beat (Q22.beat (Q22.mk 0) 2) 2)).st = 0 := by decide
  have e8 : (Q22.watch (Q22.beat (Q22.beat (Q22.mk 0) 2) 2)).lead = -1 := by decide
  go_wp2_with fail
  refine (HO.out.look S.is (fun F hF => S.leads _ p F _ hF)).mono ?_
  rintro e w2 ⟨rfl, hq⟩
  replace HO : Hid (Oq.O1 At W w2 p _ []) := hq
  clear hq
  rw [e1]
  go_wp2_with fail
  refine (HO.out.look S.is (fun F hF => S.stands _ p F _ hF)).mono ?_
  rintro e w3 ⟨rfl, hq⟩
  replace HO : Hid (Oq.O1 At W w3 p _ []) := hq
  clear hq
  rw [e2]
  go_wp2_with fail
  refine (HO.out.look S.is (fun F hF => S.leader _ p F _ hF)).mono ?_
  rintro e w4 ⟨rfl, hq⟩
  replace HO : Hid (Oq.O1 At W w4 p _ []) := hq
  clear hq
  rw [e3]
  go_wp2_with fail
  refine (HO.out.make2 S.is (fun F hF => S.new _ (-1) (by decide))).mono ?_
  rintro e w5 ⟨q, rfl, hq⟩
  have HT : Hid (Oq.O2 At At W w5 p (Q22.mk 0) q (Q22.mk (-1)) []) := hq
  clear hq
  go_wp2_with fail
  refine (HT.out.look2 S.is S.is (fun F hF => S.stands _ q F _ hF)).mono ?_
  rintro e w6 ⟨rfl, hq⟩
  replace HO : Hid (Oq.O1 At W w6 p (Q22.mk 0) []) := hq.fst
  clear hq HT
  rw [e4]
  go_wp2_with fail
  refine (HO.out.turn (fun F hF => S.beat _ p F _ 2 (by decide) hF)).mono ?_
  rintro e w7 ⟨rfl, hq⟩
  replace HO : Hid (Oq.O1 At W w7 p (Q22.beat (Q22.mk 0) 2) []) := hq
  clear hq
  go_wp2_with fail
  refine (HO.out.look S.is (fun F hF => S.state _ p F _ hF)).mono ?_
  rintro e w8 ⟨rfl, hq⟩
  replace HO : Hid (Oq.O1 At W w8 p _ []) := hq
  clear hq
  rw [e5]
  go_wp2_with fail
  refine (HO.out.turn (fun F hF => S.beat _ p F _ 2 (by decide) hF)).mono ?_
  rintro e w9 ⟨rfl, hq⟩
  replace HO : Hid (Oq.O1 At W w9 p (Q22.beat (Q22.beat (Q22.mk 0) 2) 2) []) := hq
  clear hq
  go_wp2_with fail
  refine (HO.out.look S.is (fun F hF => S.leads _ p F _ hF)).mono ?_
  rintro e w10 ⟨rfl, hq⟩
  replace HO : Hid (Oq.O1 At W w10 p _ []) := hq
  clear hq
  rw [e6]
  go_wp2_with fail
  refine (HO.out.turn (fun F hF => S.watch _ p F _ hF)).mono ?_
  rintro e w11 ⟨rfl, hq⟩
  replace HO : Hid (Oq.O1 At W w11 p (Q22.watch (Q22.beat (Q22.beat (Q22.mk 0) 2) 2)) []) := hq
  clear hq
  go_wp2_with fail
  refine (HO.out.look S.is (fun F hF => S.state _ p F _ hF)).mono ?_
  rintro e w12 ⟨rfl, hq⟩
  replace HO : Hid (Oq.O1 At W w12 p _ []) := hq
  clear hq
  rw [e7]
  go_wp2_with fail
  refine (HO.out.look S.is (fun F hF => S.leader _ p F _ hF)).mono ?_
  rintro e w13 ⟨rfl, hq⟩
  replace HO : Hid (Oq.O1 At W w13 p _ []) := hq
  clear hq
  rw [e8]
  have HB : Hid (Below W.heap.size W w13) := HO.out.bel
  clear HO
  go_wp2
  go_ret
  exact ⟨rfl, HB.out⟩
end Go.Proofs.Ytimcjhnanjeloaa
