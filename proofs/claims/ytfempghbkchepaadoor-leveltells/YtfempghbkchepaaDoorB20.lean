/- Layer 20: law 20's own known. -/
import Derived.Test.YtfempghbkchepaaDoorA20
import Derived.ProofKit
import Derived.OpenShut
import Derived.Deep.CutBlock
namespace Go.Proofs.YtfempghbkchepaaDoor
open Go.RowKit Go.WideShapes
set_option linter.unusedVariables false
set_option maxRecDepth 100000 in
set_option maxHeartbeats 8000000 in
theorem known20_any {At : Ob.A (List Nat)} {T : World → Prop} (S : StatusSpec At) (L : LevelSpec At T) (W : World) (hG : ∀ w', Below W.heap.size W w' → T w') : Calls Tryd.prog 6 #[] W fun e w' => e = .returned (.bool true) ∧ Below W.heap.size W w' := by
  have HG : Hid (∀ w', Below W.heap.size W w' → T w') := hG
  clear hG
  go_enter Tryd.func6, Tryd.ntmps6
  go_wp2_with fail
  refine (Oq.O1.make (S.new W 2 (by decide)) (Below.refl _ _)).mono ?_
  rintro e w1 ⟨p, rfl, hq⟩
  have HO : Hid (Oq.O1 At W w1 p (Q19.mk 2) []) := hq
  clear hq
  have e1 : Q19.of_ (Q19.mk 2) false false = 0 := by decide
  have e2 : Q19.of_ (Q19.mk 2) true false = 3 := by decide
  have m1 : Q19.may 1 = true := by decide
  have m2 : Q19.may 2 = false := by decide
  have m3 : Q19.may (-1) = false := by decide
  have b2 : Q19.beats 2 = true := by decide
  have b3 : Q19.beats 3 = false := by decide
  go_wp2_with fail
  refine (HO.out.look S.is (fun F hF => L.of_ _ (HG.out _ HO.out.bel) p F _ false false hF)).mono ?_
  rintro e w2 ⟨rfl, hq⟩
  replace HO : Hid (Oq.O1 At W w2 p _ []) := hq
  clear hq
  rw [e1]
  go_wp2_with fail
  refine (HO.out.look S.is (fun F hF => L.of_ _ (HG.out _ HO.out.bel) p F _ true false hF)).mono ?_
  rintro e w3 ⟨rfl, hq⟩
  replace HO : Hid (Oq.O1 At W w3 p _ []) := hq
  clear hq
  rw [e2]
  go_wp2_with fail
  refine (HO.out.look S.is (fun F hF => L.nil _ (HG.out _ HO.out.bel) false false)).mono ?_
  rintro e w4 ⟨rfl, hq⟩
  replace HO : Hid (Oq.O1 At W w4 p _ []) := hq
  clear hq
  simp only [Bool.or_self, Bool.false_eq_true, if_false]
  go_wp2_with fail
  refine (HO.out.look S.is (fun F hF => L.may _ (HG.out _ HO.out.bel) 1 (by decide))).mono ?_
  rintro e w5 ⟨rfl, hq⟩
  replace HO : Hid (Oq.O1 At W w5 p _ []) := hq
  clear hq
  rw [m1]
  go_wp2_with fail
  refine (HO.out.look S.is (fun F hF => L.may _ (HG.out _ HO.out.bel) 2 (by decide))).mono ?_
  rintro e w6 ⟨rfl, hq⟩
  replace HO : Hid (Oq.O1 At W w6 p _ []) := hq
  clear hq
  rw [m2]
  go_wp2_with fail
  refine (HO.out.look S.is (fun F hF => L.beats _ (HG.out _ HO.out.bel) 2 (by decide))).mono ?_
  rintro e w7 ⟨rfl, hq⟩
  replace HO : Hid (Oq.O1 At W w7 p _ []) := hq
  clear hq
  rw [b2]
  go_wp2_with fail
  refine (HO.out.look S.is (fun F hF => L.beats _ (HG.out _ HO.out.bel) 3 (by decide))).mono ?_
  rintro e w8 ⟨rfl, hq⟩
  replace HO : Hid (Oq.O1 At W w8 p _ []) := hq
  clear hq
  rw [b3]
  go_wp2_with fail
  refine (HO.out.look S.is (fun F hF => L.may _ (HG.out _ HO.out.bel) (-1) (by decide))).mono ?_
  rintro e w9 ⟨rfl, hq⟩
  replace HO : Hid (Oq.O1 At W w9 p _ []) := hq
  clear hq
  rw [m3]
  have HB : Hid (Below W.heap.size W w9) := HO.out.bel
  clear HO e1 e2 m1 m2 m3 b2 b3
  go_wp2
  go_ret
  exact ⟨rfl, HB.out⟩
end Go.Proofs.YtfempghbkchepaaDoor
