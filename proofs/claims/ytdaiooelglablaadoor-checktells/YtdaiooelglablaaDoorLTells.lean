/- CheckTells: of every matrix of few entries the first error, and where; which windows meet; how many units so many bits are; for every three numbers (other matrices are let by); no condition. -/
import Derived.Test.YtdaiooelglablaaDoorL6
import Derived.Test.YtdaiooelglablaaDoorL5
import Derived.ProofKit
import Derived.OpenShut
namespace Go.Proofs.YtdaiooelglablaaDoor.checkTells
open Go.ChangeShapes Go.WideShapes Go.ChangeAt Go.RowKit
set_option linter.unusedVariables false
variable {Q : World → Prop}
set_option maxRecDepth 100000 in
set_option maxHeartbeats 16000000 in
theorem walkA (hQ : ∀ w w', Q w → Below w.heap.size w w' → Q w') (S : CheckSpec Q) (m : Mx.M) (a : Ma) {W0 : World} (hm : MIn W0 m a) (hwf : Mx.Wf m) (i : Int) (hi : (Lit.int .i64 i).wf = true) (j : Int) (hj : (Lit.int .i64 j).wf = true) (bits : Int) (hbt : (Lit.int .i64 bits).wf = true) (W : World) (hw0 : W = W0) (hW : Q W) :
    Calls Tryd.prog 3 #[mV m a, .int .i64 i, .int .i64 j, .int .i64 bits] W fun e w' => e = .returned (.bool true) ∧ Below W.heap.size W w' := by
  subst hw0
  have HQ : Hid (∀ w, Below W.heap.size W w → Q w) := fun w hb => hQ W w hW hb
  have HK : Hid (∀ w, Below W.heap.size W w → Calls Tryd.prog 9 #[] w fun e w' => e = .returned (.bool true) ∧ Below w.heap.size w w') := fun w hb => known14_any hQ S w (HQ.out _ hb)
  have HX : Hid (Bx W (W.alloc (.cells (mCs m a) 27)) W.heap.size m a) := Bx.mk' hm
  have HWf : Hid (Mx.Wf m) := hwf
  have HI : Hid ((Lit.int .i64 i).wf = true ∧ (Lit.int .i64 j).wf = true ∧ (Lit.int .i64 bits).wf = true) := ⟨hi, hj, hbt⟩
  clear hm hwf hQ hW hi hj hbt
  go_enter Tryd.func3, Tryd.ntmps3
  go_wp2_with fail
  refine (HK.out _ HX.out.below).mono ?_
  rintro e w1 ⟨rfl, hb⟩
  replace HX : Hid (Bx W w1 W.heap.size m a) := HX.out.on hb
  clear hb HK
  obtain ⟨y0, y1, y2, y3, y4, y5, y6, y7, y8, y9, y10⟩ := HX.out.row.mat
  go_wp2_with fail
  refine (few14_any w1 m a).mono ?_
  rintro e w2 ⟨rfl, hb⟩
  replace HX : Hid (Bx W w2 W.heap.size m a) := HX.out.on hb
  clear y0 y1 y10 y2 y3 y4 y5 y6 y7 y8 y9
  clear hb
  cases hfw : Mx.few m
  · go_wp2
    go_ret
    exact ⟨rfl, HX.out.below⟩
  have HS : Hid (Mx.Small m) := Mx.few_small hfw
  obtain ⟨y0, y1, y2, y3, y4, y5, y6, y7, y8, y9, y10⟩ := HX.out.row.mat
  go_wp2_with fail
  refine (S.check w2 m a (HQ.out _ HX.out.below) HX.out.mem HS.out HWf.out).mono ?_
  rintro e w3 ⟨rfl, hb⟩
  replace HX : Hid (Bx W w3 W.heap.size m a) := HX.out.on hb
  clear y0 y1 y10 y2 y3 y4 y5 y6 y7 y8 y9
  clear hb
  obtain ⟨y0, y1, y2, y3, y4, y5, y6, y7, y8, y9, y10⟩ := HX.out.row.mat
  go_wp2_with fail
  refine (rcheck_any w3 m a HX.out.mem HS.out HWf.out).mono ?_
  rintro e w4 ⟨rfl, hb⟩
  replace HX : Hid (Bx W w4 W.heap.size m a) := HX.out.on hb
  clear y0 y1 y10 y2 y3 y4 y5 y6 y7 y8 y9
  clear hb
  have HR : Hid (∀ w', Below w4.heap.size w4 w' → RowT 27 w' W.heap.size (mCs m a)) := fun w' hb => (HX.out.on hb).row
  have H1 : Hid (∀ w', Below w4.heap.size w4 w' → Calls Tryd.prog 13 #[mV m a, .int .i64 i, .int .i64 j] w' fun e w'' => e = .returned (.bool (Lq.meet m i j)) ∧ Below w'.heap.size w' w'') := fun w' hb => S.meet w' m a i j (HQ.out _ (HX.out.on hb).below) (HX.out.on hb).mem HS.out HWf.out HI.out.1 HI.out.2.1
  have H2 : Hid (∀ w', Below w4.heap.size w4 w' → Calls Tryd.prog 14 #[mV m a, .int .i64 i, .int .i64 j] w' fun e w'' => e = .returned (.bool (Lq.meet m i j)) ∧ Below w'.heap.size w' w'') := fun w' hb => rmeet_any w' m a i j (HX.out.on hb).mem HS.out HWf.out
  have H3 : Hid (∀ w', Below w4.heap.size w4 w' → Calls Tryd.prog 15 #[mV m a, .int .i64 bits] w' fun e w'' => e = .returned (.int .i64 (Lq.units m.unit bits)) ∧ Below w'.heap.size w' w'') := fun w' hb => S.units w' m a bits (HQ.out _ (HX.out.on hb).below) (HX.out.on hb).mem HS.out HWf.out HI.out.2.2
  have H4 : Hid (∀ w', Below w4.heap.size w4 w' → Calls Tryd.prog 16 #[mV m a, .int .i64 bits] w' fun e w'' => e = .returned (.int .i64 (Lq.units m.unit bits)) ∧ Below w'.heap.size w' w'') := fun w' hb => runits_any w' m a bits (HX.out.on hb).mem HWf.out.unit
  have H5 : Hid (∀ w', Below w4.heap.size w4 w' → Calls Tryd.prog 17 #[mV m a] w' fun e w'' => e = .returned (.int .i64 (Lq.step m)) ∧ Below w'.heap.size w' w'') := fun w' hb => S.step w' m a (HQ.out _ (HX.out.on hb).below) (HX.out.on hb).mem HS.out HWf.out
  have H6 : Hid (∀ w', Below w4.heap.size w4 w' → Calls Tryd.prog 18 #[mV m a] w' fun e w'' => e = .returned (.int .i64 (Lq.step m)) ∧ Below w'.heap.size w' w'') := fun w' hb => rstep_any w' m a (HX.out.on hb).mem HS.out HWf.out
  have HB : Hid (Below W.heap.size W w4) := HX.out.below
  generalize Lq.meet m i j = V1 at *
  generalize Lq.units m.unit bits = V2 at *
  generalize Lq.step m = V3 at *
  generalize (Lq.check m).1 = C1 at *
  generalize (Lq.check m).2 = C2 at *
  clear HX hfw
  go_wp2_with fail
  refine Lw.wp_region_quiet_below (by kernel_rfl) (by kernel_rfl) ?_
  repeat (first
    | go_big_quiet_skip
    | (go_big_quiet_want; go_big_quiet_op; go_big_quiet_on)
    | (go_big_quiet_want; go_big_quiet_op; apply Exists.intro; refine ⟨fun _ hb' => ?_, ?_⟩; (first
      | exact Lw.val_rfl _
      | (go_at_call 13; exact Lw.calls_below hb' (H1.out _ hb'))
      | (go_at_call 14; exact Lw.calls_below hb' (H2.out _ hb'))
      | (go_at_call 15; exact Lw.calls_below hb' (H3.out _ hb'))
      | (go_at_call 16; exact Lw.calls_below hb' (H4.out _ hb'))
      | (go_at_call 17; exact Lw.calls_below hb' (H5.out _ hb'))
      | (go_at_call 18; exact Lw.calls_below hb' (H6.out _ hb'))
      | (simp [go_sem, (HR.out _ hb').mat.1, (HR.out _ hb').mat.2.1, (HR.out _ hb').mat.2.2.1, (HR.out _ hb').mat.2.2.2.1, (HR.out _ hb').mat.2.2.2.2.1, (HR.out _ hb').mat.2.2.2.2.2.1, (HR.out _ hb').mat.2.2.2.2.2.2.1, (HR.out _ hb').mat.2.2.2.2.2.2.2.1, (HR.out _ hb').mat.2.2.2.2.2.2.2.2.1, (HR.out _ hb').mat.2.2.2.2.2.2.2.2.2.1, (HR.out _ hb').mat.2.2.2.2.2.2.2.2.2.2]; rfl)); go_big_quiet_on))
  refine wpQuiet_nil ?_
  intro wz hbz
  have HBz : Hid (Below W.heap.size W wz) := HB.out.trans (hbz.mono HB.out.size)
  clear hbz
  go_wp2
  go_ret
  exact ⟨rfl, HBz.out⟩
end Go.Proofs.YtdaiooelglablaaDoor.checkTells
