/- ClockSince: how far one time is behind another one, round the end, too, for every three times; no condition. -/
import Derived.Test.YtjjahfmjiinpcaaC2
import Derived.ProofKit
import Derived.OpenShut
namespace Go.Proofs.Ytjjahfmjiinpcaa.clockSince
open Go.ChangeShapes Go.WideShapes Go.ChangeAt Go.RowKit
set_option linter.unusedVariables false
variable {At : Ob.A Ck.St}
set_option maxRecDepth 100000 in
set_option maxHeartbeats 2000000 in
theorem walkN (S : ClockSpec At) (a b c : Nat) (ha : a < 65536) (hb : b < 65536) (hc : c < 65536) (W : World) :
    Calls Try.prog 5 #[.int .u16 (a : Int), .int .u16 (b : Int), .int .u16 (c : Int)] W fun e w' => e = .returned (.bool true) ∧ Below W.heap.size W w' := by
  have hk := known9_any S W
  have H : Hid (∀ (w : World) (a b : Nat), a < 65536 → b < 65536 → Calls Try.prog 20 #[.int .u16 (a : Int), .int .u16 (b : Int)] w fun e w' => e = .returned (.int .i64 (Ck.since a b : Int)) ∧ Below w.heap.size w w') := S.since
  obtain ⟨X, hX⟩ : ∃ X, Ck.since a b = X := ⟨_, rfl⟩
  obtain ⟨Y, hY⟩ : ∃ Y, Ck.since b a = Y := ⟨_, rfl⟩
  obtain ⟨V, hV⟩ : ∃ V, Ck.since b c = V := ⟨_, rfl⟩
  obtain ⟨U, hU⟩ : ∃ U, Ck.since a c = U := ⟨_, rfl⟩
  obtain ⟨d, hd⟩ : ∃ d, (a + c) % 65536 = d := ⟨_, rfl⟩
  have hD : Ck.since a d = c := by rw [← hd]; unfold Ck.since; omega
  have x1 : X < 65536 := by rw [← hX]; unfold Ck.since; omega
  have y1 : Y < 65536 := by rw [← hY]; unfold Ck.since; omega
  have v1 : V < 65536 := by rw [← hV]; unfold Ck.since; omega
  have u1 : U < 65536 := by rw [← hU]; unfold Ck.since; omega
  have d1 : d < 65536 := by omega
  have e1 : ((X : Int) + (Y : Int)).tmod 65536 = 0 := by rw [Int.tmod_eq_emod_of_nonneg (by omega)]; rw [← hX, ← hY]; unfold Ck.since; omega
  have e2 : ((X : Int) + (V : Int)).tmod 65536 = (U : Int) := by rw [Int.tmod_eq_emod_of_nonneg (by omega)]; rw [← hX, ← hV, ← hU]; unfold Ck.since; omega
  have e3 : IntKind.u16.wrap ((a : Int) + (c : Int)) = (d : Int) := by rw [IntKind.wrap_u16]; omega
  have HX : Hid (Ck.since a b = X) := hX
  have HY : Hid (Ck.since b a = Y) := hY
  have HV : Hid (Ck.since b c = V) := hV
  have HU : Hid (Ck.since a c = U) := hU
  have HD : Hid (Ck.since a d = c) := hD
  clear hX hY hV hU hD hd
  have BA : Hid (a < 65536) := ha
  have BB : Hid (b < 65536) := hb
  have BC : Hid (c < 65536) := hc
  have BD : Hid (d < 65536) := d1
  have xi : (X : Int) < 65536 := by omega
  have yi : (Y : Int) < 65536 := by omega
  have vi : (V : Int) < 65536 := by omega
  have ci : (c : Int) < 65536 := by omega
  have ai : (a : Int) < 65536 := by omega
  clear ha hb hc d1 x1 y1 v1 u1
  go_enter Try.func5, Try.ntmps5
  go_wp2_with fail
  refine hk.mono ?_
  rintro e w1 ⟨rfl, hb1⟩
  have hA : Hid (Below W.heap.size W w1) := hb1
  clear hk hb1
  go_wp2_with fail
  refine (H.out _ a b BA.out BB.out).mono ?_
  rintro e w2 ⟨rfl, hb'⟩
  replace hA : Hid (Below W.heap.size W w2) := hA.out.trans (hb'.mono hA.out.size)
  clear hb'
  rw [HX.out]
  go_wp2_with fail
  refine (H.out _ b a BB.out BA.out).mono ?_
  rintro e w3 ⟨rfl, hb'⟩
  replace hA : Hid (Below W.heap.size W w3) := hA.out.trans (hb'.mono hA.out.size)
  clear hb'
  rw [HY.out]
  go_wp2_with fail
  refine (H.out _ a d BA.out BD.out).mono ?_
  rintro e w4 ⟨rfl, hb'⟩
  replace hA : Hid (Below W.heap.size W w4) := hA.out.trans (hb'.mono hA.out.size)
  clear hb'
  rw [HD.out]
  go_wp2_with fail
  refine (H.out _ a b BA.out BB.out).mono ?_
  rintro e w5 ⟨rfl, hb'⟩
  replace hA : Hid (Below W.heap.size W w5) := hA.out.trans (hb'.mono hA.out.size)
  clear hb'
  rw [HX.out]
  go_wp2_with fail
  refine (H.out _ b c BB.out BC.out).mono ?_
  rintro e w6 ⟨rfl, hb'⟩
  replace hA : Hid (Below W.heap.size W w6) := hA.out.trans (hb'.mono hA.out.size)
  clear hb'
  rw [HV.out]
  go_wp2_with fail
  refine (H.out _ a c BA.out BC.out).mono ?_
  rintro e w7 ⟨rfl, hb'⟩
  replace hA : Hid (Below W.heap.size W w7) := hA.out.trans (hb'.mono hA.out.size)
  clear hb'
  rw [HU.out]
  go_wp2
  go_ret
  exact ⟨rfl, hA.out⟩
theorem walkA (S : ClockSpec At) (a0 : Int) (w0 : (Lit.int .u16 a0).wf = true) (a1 : Int) (w1 : (Lit.int .u16 a1).wf = true) (a2 : Int) (w2 : (Lit.int .u16 a2).wf = true) (W : World) :
    Calls Try.prog 5 #[.int .u16 a0, .int .u16 a1, .int .u16 a2] W fun e w' => e = .returned (.bool true) ∧ Below W.heap.size W w' := by
  obtain ⟨h1, h2⟩ := bounds_u16 w0
  obtain ⟨h3, h4⟩ := bounds_u16 w1
  obtain ⟨h5, h6⟩ := bounds_u16 w2
  obtain ⟨a, rfl⟩ := Int.eq_ofNat_of_zero_le h1
  obtain ⟨b, rfl⟩ := Int.eq_ofNat_of_zero_le h3
  obtain ⟨c, rfl⟩ := Int.eq_ofNat_of_zero_le h5
  exact walkN S a b c (by omega) (by omega) (by omega) W
end Go.Proofs.Ytjjahfmjiinpcaa.clockSince
