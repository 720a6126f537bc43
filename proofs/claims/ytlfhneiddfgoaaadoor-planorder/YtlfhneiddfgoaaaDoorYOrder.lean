/- PlanOrder: of every matrix of few entries: the lesser rank beats first, a Step ahead of the next one; the watch is behind all (others are let by); no condition. -/
import Derived.Test.YtlfhneiddfgoaaaDoorYg
import Derived.Test.YtlfhneiddfgoaaaDoorYh
import Derived.ProofKit
import Derived.OpenShut
namespace Go.Proofs.YtlfhneiddfgoaaaDoor.planOrder
open Go.ChangeShapes Go.WideShapes Go.ChangeAt Go.RowKit
set_option linter.unusedVariables false
variable {Q : World → Prop}
set_option maxRecDepth 100000 in
set_option maxHeartbeats 8000000 in
theorem walkA (hQ : ∀ w w', Q w → Below w.heap.size w w' → Q w') (S : PlanSpec Q) (m : Mx.M) (a : Ma) (p q : Int) {W0 : World} (hm : MIn W0 m a) (hwf : Mx.Wf m) (h1 : (Lit.int .u8 p).wf = true) (h2 : (Lit.int .u8 q).wf = true) (W : World) (hw0 : W = W0) (hW : Q W) :
    Calls Tryd.prog 6 #[mV m a, .int .u8 p, .int .u8 q] W fun e w' => e = .returned (.bool true) ∧ Below W.heap.size W w' := by
  subst hw0
  have HQ : Hid (∀ w, Below W.heap.size W w → Q w) := fun w hb => hQ W w hW hb
  have HK : Hid (∀ w, Below W.heap.size W w → Calls Tryd.prog 9 #[] w fun e w' => e = .returned (.bool true) ∧ Below w.heap.size w w') := fun w hb => known15_any hQ S w (HQ.out _ hb)
  have HBt : Hid (∀ w r, Bx W w W.heap.size m a → Mx.Small m → (Lit.int .i64 r).wf = true → Calls Tryd.prog 14 #[mV m a, .int .i64 r] w fun e w' => e = .returned (.int .i64 (Yq.beat m r)) ∧ Below w.heap.size w w') := fun w r h hs hr => S.beat w m a r (HQ.out _ h.below) h.mem hs hwf hr
  have HWt : Hid (∀ w, Bx W w W.heap.size m a → Mx.Small m → Calls Tryd.prog 16 #[mV m a] w fun e w' => e = .returned (.int .i64 (Yq.watch m)) ∧ Below w.heap.size w w') := fun w h hs => S.watch w m a (HQ.out _ h.below) h.mem hs hwf
  have HSt : Hid (∀ w, Bx W w W.heap.size m a → Mx.Small m → Calls Tryd.prog 22 #[mV m a] w fun e w' => e = .returned (.int .i64 (Lq.step m)) ∧ Below w.heap.size w w') := fun w h hs => rstep_any w m a h.mem hs hwf
  have HIs : Hid (∀ w, Bx W w W.heap.size m a → Mx.Small m → Calls Tryd.prog 20 #[mV m a] w fun e w' => e = .returned (.bool (Mx.is m)) ∧ Below w.heap.size w w') := fun w h hs => ris_any w m a h.mem hs
  have hp : 0 ≤ p ∧ p < 256 := u8rng h1
  have hq : 0 ≤ q ∧ q < 256 := u8rng h2
  have HX : Hid (Bx W (W.alloc (.cells (mCs m a) 27)) W.heap.size m a) := Bx.mk' hm
  clear hm hQ hW
  go_enter Tryd.func6, Tryd.ntmps6
  clear h1 h2 hwf
  go_wp2_with fail
  refine (HK.out _ HX.out.below).mono ?_
  rintro e w1 ⟨rfl, hb⟩
  replace HX : Hid (Bx W w1 W.heap.size m a) := HX.out.on hb
  clear hb HK
  obtain ⟨y0, y1, y2, y3, y4, y5, y6, y7, y8, y9, y10⟩ := HX.out.row.mat
  go_wp2_with fail
  refine (few15_any w1 m a).mono ?_
  rintro e w2 ⟨rfl, hb⟩
  replace HX : Hid (Bx W w2 W.heap.size m a) := HX.out.on hb
  clear y0 y1 y10 y2 y3 y4 y5 y6 y7 y8 y9
  clear hb
  cases hfw : Mx.few m
  · go_wp2
    go_ret
    exact ⟨rfl, HX.out.below⟩
  have HS : Hid (Mx.Small m) := Mx.few_small hfw
  clear hfw
  obtain ⟨y0, y1, y2, y3, y4, y5, y6, y7, y8, y9, y10⟩ := HX.out.row.mat
  go_wp2_with fail
  refine (HIs.out _ HX.out HS.out).mono ?_
  rintro e w3 ⟨rfl, hb⟩
  replace HX : Hid (Bx W w3 W.heap.size m a) := HX.out.on hb
  clear y0 y1 y10 y2 y3 y4 y5 y6 y7 y8 y9
  clear hb
  cases hi : Mx.is m
  · go_wp2
    go_ret
    exact ⟨rfl, HX.out.below⟩
  have HI : Hid (Mx.is m = true) := hi
  clear hi
  obtain ⟨x, hx⟩ : ∃ x, p.tmod 4 = x := ⟨_, rfl⟩
  obtain ⟨y, hy⟩ : ∃ y, q.tmod 4 = y := ⟨_, rfl⟩
  have hx4 : 0 ≤ x ∧ x ≤ 3 := by rw [← hx, Int.tmod_eq_emod_of_nonneg hp.1]; omega
  have hy4 : 0 ≤ y ∧ y ≤ 3 := by rw [← hy, Int.tmod_eq_emod_of_nonneg hq.1]; omega
  obtain ⟨x1, x2⟩ := hx4
  obtain ⟨y1, y2⟩ := hy4
  have wx : IntKind.i64.wrap x = x := by rw [IntKind.wrap_i64]; omega
  have wy : IntKind.i64.wrap y = y := by rw [IntKind.wrap_i64]; omega
  have ux : IntKind.u8.wrap x = x := by rw [IntKind.wrap_u8]; omega
  have uy : IntKind.u8.wrap y = y := by rw [IntKind.wrap_u8]; omega
  clear hp hq
  obtain ⟨z0, z1, z2, z3, z4, z5, z6, z7, z8, z9, z10⟩ := HX.out.row.mat
  go_wp2_with fail
  refine (HSt.out _ HX.out HS.out).mono ?_
  rintro e w4 ⟨rfl, hb⟩
  replace HX : Hid (Bx W w4 W.heap.size m a) := HX.out.on hb
  clear hb HSt z0 z1 z2 z3 z4 z5 z6 z7 z8 z9 z10 hx hy
  obtain ⟨o1, o2, o3, o4⟩ := Yq.order HI.out ⟨x1, x2⟩ ⟨y1, y2⟩
  have hsp := Yq.step_pos HI.out
  have hcy := Lq.cyc_of HI.out
  have hl4 := Yq.lens4 HI.out
  obtain ⟨_, _, ln1, ln2, ms1, _⟩ := hcy
  have ex : Yq.beat m x = m.length + (x + 1) * Lq.step m := Yq.beat_eq HI.out x1 (by omega)
  have ey : Yq.beat m y = m.length + (y + 1) * Lq.step m := Yq.beat_eq HI.out y1 (by omega)
  have el : Yq.beat m ((m.masters.length : Int) - 1) = m.length + (m.masters.length : Int) * Lq.step m := by rw [Yq.beat_eq HI.out (by omega) (by omega)]; congr 2; omega
  obtain ⟨st, hst⟩ : ∃ s, Lq.step m = s := ⟨_, rfl⟩
  rw [hst] at hsp ex ey el o1 o4 ⊢
  have bx : 0 ≤ (x + 1) * st ∧ (x + 1) * st ≤ 4 * 5000 := ⟨Int.mul_nonneg (by omega) (by omega), Int.mul_le_mul (by omega) (by omega) (by omega) (by omega)⟩
  have by_ : 0 ≤ (y + 1) * st ∧ (y + 1) * st ≤ 4 * 5000 := ⟨Int.mul_nonneg (by omega) (by omega), Int.mul_le_mul (by omega) (by omega) (by omega) (by omega)⟩
  have bl : 0 ≤ (m.masters.length : Int) * st ∧ (m.masters.length : Int) * st ≤ 4 * 5000 := ⟨Int.mul_nonneg (by omega) (by omega), Int.mul_le_mul (by omega) (by omega) (by omega) (by omega)⟩
  obtain ⟨D, hD⟩ : ∃ D, (y - x) * st = D := ⟨_, rfl⟩
  have eD : Yq.beat m y - Yq.beat m x = D := by rw [← hD]; exact o1
  have bD : -100000 ≤ D ∧ D ≤ 100000 := by rw [← eD, ex, ey]; omega
  have f1 : IntKind.i64.wrap (Yq.beat m y - Yq.beat m x) = D := by rw [eD, IntKind.wrap_i64]; omega
  have f2 : IntKind.i64.wrap (y - x) = y - x := by rw [IntKind.wrap_i64]; omega
  have f3 : IntKind.i64.wrap ((y - x) * st) = D := by rw [hD, IntKind.wrap_i64]; omega
  have f4 : decide (m.length < Yq.beat m x) = true := decide_eq_true o2
  have f5 : IntKind.i64.wrap ((m.masters.length : Int) - 1) = (m.masters.length : Int) - 1 := by rw [IntKind.wrap_i64]; omega
  have f6 : IntKind.i64.wrap (2 * st) = 2 * st := by rw [IntKind.wrap_i64]; omega
  have f7 : IntKind.i64.wrap (Yq.beat m ((m.masters.length : Int) - 1) + 2 * st) = Yq.beat m ((m.masters.length : Int) - 1) + 2 * st := by rw [el, IntKind.wrap_i64]; omega
  have f8 : decide (Yq.beat m ((m.masters.length : Int) - 1) + 2 * st ≤ Yq.watch m) = true := decide_eq_true o4
  have HB1 : Hid (∀ w, Bx W w W.heap.size m a → Calls Tryd.prog 14 #[mV m a, .int .i64 (-1)] w fun e w' => e = .returned (.int .i64 m.length) ∧ Below w.heap.size w w') := fun w h => by have := HBt.out w (-1) h HS.out (wfi (by omega)); rwa [o3] at this
  have HBx : Hid (∀ w, Bx W w W.heap.size m a → Calls Tryd.prog 14 #[mV m a, .int .i64 x] w fun e w' => e = .returned (.int .i64 (Yq.beat m x)) ∧ Below w.heap.size w w') := fun w h => HBt.out w x h HS.out (wfi (by omega))
  have HBy : Hid (∀ w, Bx W w W.heap.size m a → Calls Tryd.prog 14 #[mV m a, .int .i64 y] w fun e w' => e = .returned (.int .i64 (Yq.beat m y)) ∧ Below w.heap.size w w') := fun w h => HBt.out w y h HS.out (wfi (by omega))
  have HBl : Hid (∀ w, Bx W w W.heap.size m a → Calls Tryd.prog 14 #[mV m a, .int .i64 ((m.masters.length : Int) - 1)] w fun e w' => e = .returned (.int .i64 (Yq.beat m ((m.masters.length : Int) - 1))) ∧ Below w.heap.size w w') := fun w h => HBt.out w _ h HS.out (wfi (by omega))
  clear o1 o2 o3 o4 ex ey el bx by_ bl eD bD hD hsp hl4 HBt hst ms1 ln1 ln2 x1 x2 y1 y2 wx wy ux uy
  generalize Yq.beat m ((m.masters.length : Int) - 1) = bl at f7 f8 HBl
  generalize Yq.beat m x = bX at f1 f4 HBx
  generalize Yq.beat m y = bY at f1 HBy
  generalize Yq.watch m = wt at f8 HWt
  go_upto_region 7 with fail
  have hbd : Below w4.heap.size w4 w4.drew := (Below.refl _ _).drew
  replace HX : Hid (Bx W w4.drew W.heap.size m a) := HX.out.on hbd
  clear hbd
  refine wp_region_held_drew (S := fun w' => RowT 27 w' W.heap.size (mCs m a)) (by kernel_rfl) HX.out.row (fun hHeld => ?_)
  refine Hl.takeL (i := 0) (d := 28) (v := ?_) rfl (by kernel_rfl) (by kernel_rfl) (by kernel_rfl) (fun _ _ _ h => h) (by rfl) ?_ (by first | assumption | trivial) ?_
  rotate_left
  · intro w hSw; obtain ⟨y0, y1, y2, y3, y4, y5, y6, y7, y8, y9, y10⟩ := hSw.mat; go_simp; (try with_reducible rfl)
  simp only [Act.put, List.setIfInBounds_toArray, List.set_cons_zero, List.set_cons_succ]
  refine Hl.takeL (i := 1) (d := 29) (v := ?_) rfl (by kernel_rfl) (by kernel_rfl) (by kernel_rfl) (fun _ _ _ h => h) (by rfl) ?_ (by first | assumption | trivial) ?_
  rotate_left
  · intro w hSw; obtain ⟨y0, y1, y2, y3, y4, y5, y6, y7, y8, y9, y10⟩ := hSw.mat; go_simp; (try with_reducible rfl)
  simp only [Act.put, List.setIfInBounds_toArray, List.set_cons_zero, List.set_cons_succ]
  refine Hl.takeL (i := 3) (d := 31) (v := ?_) rfl (by kernel_rfl) (by kernel_rfl) (by kernel_rfl) (fun _ _ _ h => h) (by rfl) ?_ (by first | assumption | trivial) ?_
  rotate_left
  · intro w hSw; obtain ⟨y0, y1, y2, y3, y4, y5, y6, y7, y8, y9, y10⟩ := hSw.mat; go_simp; (try with_reducible rfl)
  simp only [Act.put, List.setIfInBounds_toArray, List.set_cons_zero, List.set_cons_succ]
  refine Hl.takeL (i := 4) (d := 32) (v := ?_) rfl (by kernel_rfl) (by kernel_rfl) (by kernel_rfl) (fun _ _ _ h => h) (by rfl) ?_ (by first | assumption | trivial) ?_
  rotate_left
  · intro w hSw; obtain ⟨y0, y1, y2, y3, y4, y5, y6, y7, y8, y9, y10⟩ := hSw.mat; go_simp; (try with_reducible rfl)
  simp only [Act.put, List.setIfInBounds_toArray, List.set_cons_zero, List.set_cons_succ]
  refine Hl.takeL (i := 7) (d := 35) (v := ?_) rfl (by kernel_rfl) (by kernel_rfl) (by kernel_rfl) (fun _ _ _ h => h) (by rfl) ?_ (by first | assumption | trivial) ?_
  rotate_left
  · intro w hSw; obtain ⟨y0, y1, y2, y3, y4, y5, y6, y7, y8, y9, y10⟩ := hSw.mat; go_simp; (try with_reducible rfl)
  simp only [Act.put, List.setIfInBounds_toArray, List.set_cons_zero, List.set_cons_succ]
  refine Hl.takeL (i := 8) (d := 36) (v := ?_) rfl (by kernel_rfl) (by kernel_rfl) (by kernel_rfl) (fun _ _ _ h => h) (by rfl) ?_ (by first | assumption | trivial) ?_
  rotate_left
  · intro w hSw; obtain ⟨y0, y1, y2, y3, y4, y5, y6, y7, y8, y9, y10⟩ := hSw.mat; go_simp; (try with_reducible rfl)
  simp only [Act.put, List.setIfInBounds_toArray, List.set_cons_zero, List.set_cons_succ]
  refine Hl.takeL (i := 9) (d := 37) (v := ?_) rfl (by kernel_rfl) (by kernel_rfl) (by kernel_rfl) (fun _ _ _ h => h) (by rfl) ?_ (by first | assumption | trivial) ?_
  rotate_left
  · intro w hSw; obtain ⟨y0, y1, y2, y3, y4, y5, y6, y7, y8, y9, y10⟩ := hSw.mat; go_simp; (try with_reducible rfl)
  simp only [Act.put, List.setIfInBounds_toArray, List.set_cons_zero, List.set_cons_succ]
  refine Hl.takeL (i := 10) (d := 38) (v := ?_) rfl (by kernel_rfl) (by kernel_rfl) (by kernel_rfl) (fun _ _ _ h => h) (by rfl) ?_ (by first | assumption | trivial) ?_
  rotate_left
  · intro w hSw; obtain ⟨y0, y1, y2, y3, y4, y5, y6, y7, y8, y9, y10⟩ := hSw.mat; go_simp; (try with_reducible rfl)
  simp only [Act.put, List.setIfInBounds_toArray, List.set_cons_zero, List.set_cons_succ]
  refine Hl.takeL (i := 11) (d := 39) (v := ?_) rfl (by kernel_rfl) (by kernel_rfl) (by kernel_rfl) (fun _ _ _ h => h) (by rfl) ?_ (by first | assumption | trivial) ?_
  rotate_left
  · intro w hSw; obtain ⟨y0, y1, y2, y3, y4, y5, y6, y7, y8, y9, y10⟩ := hSw.mat; go_simp; (try with_reducible rfl)
  simp only [Act.put, List.setIfInBounds_toArray, List.set_cons_zero, List.set_cons_succ]
  refine Hl.consL (i := 2) rfl (by kernel_rfl) (fun K' hK' => ?_)
  go_simp
  refine (HBy.out _ HX.out).mono ?_
  rintro e w5 ⟨rfl, hb⟩
  replace HX : Hid (Bx W w5 W.heap.size m a) := HX.out.on hb
  clear hb hHeld
  try go_wp2_with fail
  refine hK'.out _ _ HX.out.row (fun hHeld => ?_)
  clear hK' K'
  refine Hl.consL (i := 5) rfl (by kernel_rfl) (fun K' hK' => ?_)
  go_simp
  refine (HBx.out _ HX.out).mono ?_
  rintro e w6 ⟨rfl, hb⟩
  replace HX : Hid (Bx W w6 W.heap.size m a) := HX.out.on hb
  clear hb hHeld
  try go_wp2_with fail
  refine hK'.out _ _ HX.out.row (fun hHeld => ?_)
  clear hK' K'
  refine Hl.takeL (i := 6) (d := 34) (v := ?_) rfl (by kernel_rfl) (by kernel_rfl) (by kernel_rfl) (fun _ _ _ h => h) (by rfl) ?_ (by first | assumption | trivial) ?_
  rotate_left
  · intro w hSw; obtain ⟨y0, y1, y2, y3, y4, y5, y6, y7, y8, y9, y10⟩ := hSw.mat; go_simp; (try with_reducible rfl)
  simp only [Act.put, List.setIfInBounds_toArray, List.set_cons_zero, List.set_cons_succ]
  refine Hl.takeL (i := 12) (d := 40) (v := ?_) rfl (by kernel_rfl) (by kernel_rfl) (by kernel_rfl) (fun _ _ _ h => h) (by rfl) ?_ (by first | assumption | trivial) ?_
  rotate_left
  · intro w hSw; obtain ⟨y0, y1, y2, y3, y4, y5, y6, y7, y8, y9, y10⟩ := hSw.mat; go_simp; (try with_reducible rfl)
  simp only [Act.put, List.setIfInBounds_toArray, List.set_cons_zero, List.set_cons_succ]
  refine Hl.takeL (i := 13) (d := 41) (v := ?_) rfl (by kernel_rfl) (by kernel_rfl) (by kernel_rfl) (fun _ _ _ h => h) (by rfl) ?_ (by first | assumption | trivial) ?_
  rotate_left
  · intro w hSw; obtain ⟨y0, y1, y2, y3, y4, y5, y6, y7, y8, y9, y10⟩ := hSw.mat; go_simp; (try with_reducible rfl)
  simp only [Act.put, List.setIfInBounds_toArray, List.set_cons_zero, List.set_cons_succ]
  refine Hl.takeL (i := 14) (d := 42) (v := ?_) rfl (by kernel_rfl) (by kernel_rfl) (by kernel_rfl) (fun _ _ _ h => h) (by rfl) ?_ (by first | assumption | trivial) ?_
  rotate_left
  · intro w hSw; obtain ⟨y0, y1, y2, y3, y4, y5, y6, y7, y8, y9, y10⟩ := hSw.mat; go_simp; (try with_reducible rfl)
  simp only [Act.put, List.setIfInBounds_toArray, List.set_cons_zero, List.set_cons_succ]
  refine Hl.takeL (i := 15) (d := 43) (v := ?_) rfl (by kernel_rfl) (by kernel_rfl) (by kernel_rfl) (fun _ _ _ h => h) (by rfl) ?_ (by first | assumption | trivial) ?_
  rotate_left
  · intro w hSw; obtain ⟨y0, y1, y2, y3, y4, y5, y6, y7, y8, y9, y10⟩ := hSw.mat; go_simp; (try with_reducible rfl)
  simp only [Act.put, List.setIfInBounds_toArray, List.set_cons_zero, List.set_cons_succ]
  refine Hl.takeL (i := 17) (d := 45) (v := ?_) rfl (by kernel_rfl) (by kernel_rfl) (by kernel_rfl) (fun _ _ _ h => h) (by rfl) ?_ (by first | assumption | trivial) ?_
  rotate_left
  · intro w hSw; obtain ⟨y0, y1, y2, y3, y4, y5, y6, y7, y8, y9, y10⟩ := hSw.mat; go_simp; (try with_reducible rfl)
  simp only [Act.put, List.setIfInBounds_toArray, List.set_cons_zero, List.set_cons_succ]
  refine Hl.takeL (i := 18) (d := 46) (v := ?_) rfl (by kernel_rfl) (by kernel_rfl) (by kernel_rfl) (fun _ _ _ h => h) (by rfl) ?_ (by first | assumption | trivial) ?_
  rotate_left
  · intro w hSw; obtain ⟨y0, y1, y2, y3, y4, y5, y6, y7, y8, y9, y10⟩ := hSw.mat; go_simp; (try with_reducible rfl)
  simp only [Act.put, List.setIfInBounds_toArray, List.set_cons_zero, List.set_cons_succ]
  refine Hl.consL (i := 16) rfl (by kernel_rfl) (fun K' hK' => ?_)
  go_simp
  refine (HBx.out _ HX.out).mono ?_
  rintro e w7 ⟨rfl, hb⟩
  replace HX : Hid (Bx W w7 W.heap.size m a) := HX.out.on hb
  clear hb hHeld
  try go_wp2_with fail
  refine hK'.out _ _ HX.out.row (fun hHeld => ?_)
  clear hK' K'
  refine Hl.takeL (i := 19) (d := 47) (v := ?_) rfl (by kernel_rfl) (by kernel_rfl) (by kernel_rfl) (fun _ _ _ h => h) (by rfl) ?_ (by first | assumption | trivial) ?_
  rotate_left
  · intro w hSw; obtain ⟨y0, y1, y2, y3, y4, y5, y6, y7, y8, y9, y10⟩ := hSw.mat; go_simp; (try with_reducible rfl)
  simp only [Act.put, List.setIfInBounds_toArray, List.set_cons_zero, List.set_cons_succ]
  refine Hl.takeL (i := 20) (d := 48) (v := ?_) rfl (by kernel_rfl) (by kernel_rfl) (by kernel_rfl) (fun _ _ _ h => h) (by rfl) ?_ (by first | assumption | trivial) ?_
  rotate_left
  · intro w hSw; obtain ⟨y0, y1, y2, y3, y4, y5, y6, y7, y8, y9, y10⟩ := hSw.mat; go_simp; (try with_reducible rfl)
  simp only [Act.put, List.setIfInBounds_toArray, List.set_cons_zero, List.set_cons_succ]
  refine Hl.takeL (i := 21) (d := 49) (v := ?_) rfl (by kernel_rfl) (by kernel_rfl) (by kernel_rfl) (fun _ _ _ h => h) (by rfl) ?_ (by first | assumption | trivial) ?_
  rotate_left
  · intro w hSw; obtain ⟨y0, y1, y2, y3, y4, y5, y6, y7, y8, y9, y10⟩ := hSw.mat; go_simp; (try with_reducible rfl)
  simp only [Act.put, List.setIfInBounds_toArray, List.set_cons_zero, List.set_cons_succ]
  refine Hl.takeL (i := 22) (d := 50) (v := ?_) rfl (by kernel_rfl) (by kernel_rfl) (by kernel_rfl) (fun _ _ _ h => h) (by rfl) ?_ (by first | assumption | trivial) ?_
  rotate_left
  · intro w hSw; obtain ⟨y0, y1, y2, y3, y4, y5, y6, y7, y8, y9, y10⟩ := hSw.mat; go_simp; (try with_reducible rfl)
  simp only [Act.put, List.setIfInBounds_toArray, List.set_cons_zero, List.set_cons_succ]
  refine Hl.takeL (i := 24) (d := 52) (v := ?_) rfl (by kernel_rfl) (by kernel_rfl) (by kernel_rfl) (fun _ _ _ h => h) (by rfl) ?_ (by first | assumption | trivial) ?_
  rotate_left
  · intro w hSw; obtain ⟨y0, y1, y2, y3, y4, y5, y6, y7, y8, y9, y10⟩ := hSw.mat; go_simp; (try with_reducible rfl)
  simp only [Act.put, List.setIfInBounds_toArray, List.set_cons_zero, List.set_cons_succ]
  refine Hl.takeL (i := 25) (d := 53) (v := ?_) rfl (by kernel_rfl) (by kernel_rfl) (by kernel_rfl) (fun _ _ _ h => h) (by rfl) ?_ (by first | assumption | trivial) ?_
  rotate_left
  · intro w hSw; obtain ⟨y0, y1, y2, y3, y4, y5, y6, y7, y8, y9, y10⟩ := hSw.mat; go_simp; (try with_reducible rfl)
  simp only [Act.put, List.setIfInBounds_toArray, List.set_cons_zero, List.set_cons_succ]
  refine Hl.consL (i := 23) rfl (by kernel_rfl) (fun K' hK' => ?_)
  go_simp
  refine (HB1.out _ HX.out).mono ?_
  rintro e w8 ⟨rfl, hb⟩
  replace HX : Hid (Bx W w8 W.heap.size m a) := HX.out.on hb
  clear hb hHeld
  try go_wp2_with fail
  refine hK'.out _ _ HX.out.row (fun hHeld => ?_)
  clear hK' K'
  refine Hl.takeL (i := 26) (d := 54) (v := ?_) rfl (by kernel_rfl) (by kernel_rfl) (by kernel_rfl) (fun _ _ _ h => h) (by rfl) ?_ (by first | assumption | trivial) ?_
  rotate_left
  · intro w hSw; obtain ⟨y0, y1, y2, y3, y4, y5, y6, y7, y8, y9, y10⟩ := hSw.mat; go_simp; (try with_reducible rfl)
  simp only [Act.put, List.setIfInBounds_toArray, List.set_cons_zero, List.set_cons_succ]
  refine Hl.takeL (i := 27) (d := 55) (v := ?_) rfl (by kernel_rfl) (by kernel_rfl) (by kernel_rfl) (fun _ _ _ h => h) (by rfl) ?_ (by first | assumption | trivial) ?_
  rotate_left
  · intro w hSw; obtain ⟨y0, y1, y2, y3, y4, y5, y6, y7, y8, y9, y10⟩ := hSw.mat; go_simp; (try with_reducible rfl)
  simp only [Act.put, List.setIfInBounds_toArray, List.set_cons_zero, List.set_cons_succ]
  refine Hl.takeL (i := 28) (d := 56) (v := ?_) rfl (by kernel_rfl) (by kernel_rfl) (by kernel_rfl) (fun _ _ _ h => h) (by rfl) ?_ (by first | assumption | trivial) ?_
  rotate_left
  · intro w hSw; obtain ⟨y0, y1, y2, y3, y4, y5, y6, y7, y8, y9, y10⟩ := hSw.mat; go_simp; (try with_reducible rfl)
  simp only [Act.put, List.setIfInBounds_toArray, List.set_cons_zero, List.set_cons_succ]
  refine Hl.takeL (i := 29) (d := 57) (v := ?_) rfl (by kernel_rfl) (by kernel_rfl) (by kernel_rfl) (fun _ _ _ h => h) (by rfl) ?_ (by first | assumption | trivial) ?_
  rotate_left
  · intro w hSw; obtain ⟨y0, y1, y2, y3, y4, y5, y6, y7, y8, y9, y10⟩ := hSw.mat; go_simp; (try with_reducible rfl)
  simp only [Act.put, List.setIfInBounds_toArray, List.set_cons_zero, List.set_cons_succ]
  refine Hl.takeL (i := 31) (d := 59) (v := ?_) rfl (by kernel_rfl) (by kernel_rfl) (by kernel_rfl) (fun _ _ _ h => h) (by rfl) ?_ (by first | assumption | trivial) ?_
  rotate_left
  · intro w hSw; obtain ⟨y0, y1, y2, y3, y4, y5, y6, y7, y8, y9, y10⟩ := hSw.mat; go_simp; (try with_reducible rfl)
  simp only [Act.put, List.setIfInBounds_toArray, List.set_cons_zero, List.set_cons_succ]
  refine Hl.takeL (i := 32) (d := 60) (v := ?_) rfl (by kernel_rfl) (by kernel_rfl) (by kernel_rfl) (fun _ _ _ h => h) (by rfl) ?_ (by first | assumption | trivial) ?_
  rotate_left
  · intro w hSw; obtain ⟨y0, y1, y2, y3, y4, y5, y6, y7, y8, y9, y10⟩ := hSw.mat; go_simp; (try with_reducible rfl)
  simp only [Act.put, List.setIfInBounds_toArray, List.set_cons_zero, List.set_cons_succ]
  refine Hl.takeL (i := 33) (d := 61) (v := ?_) rfl (by kernel_rfl) (by kernel_rfl) (by kernel_rfl) (fun _ _ _ h => h) (by rfl) ?_ (by first | assumption | trivial) ?_
  rotate_left
  · intro w hSw; obtain ⟨y0, y1, y2, y3, y4, y5, y6, y7, y8, y9, y10⟩ := hSw.mat; go_simp; (try with_reducible rfl)
  simp only [Act.put, List.setIfInBounds_toArray, List.set_cons_zero, List.set_cons_succ]
  refine Hl.takeL (i := 34) (d := 62) (v := ?_) rfl (by kernel_rfl) (by kernel_rfl) (by kernel_rfl) (fun _ _ _ h => h) (by rfl) ?_ (by first | assumption | trivial) ?_
  rotate_left
  · intro w hSw; obtain ⟨y0, y1, y2, y3, y4, y5, y6, y7, y8, y9, y10⟩ := hSw.mat; go_simp; (try with_reducible rfl)
  simp only [Act.put, List.setIfInBounds_toArray, List.set_cons_zero, List.set_cons_succ]
  refine Hl.takeL (i := 35) (d := 63) (v := ?_) rfl (by kernel_rfl) (by kernel_rfl) (by kernel_rfl) (fun _ _ _ h => h) (by rfl) ?_ (by first | assumption | trivial) ?_
  rotate_left
  · intro w hSw; obtain ⟨y0, y1, y2, y3, y4, y5, y6, y7, y8, y9, y10⟩ := hSw.mat; go_simp; (try with_reducible rfl)
  simp only [Act.put, List.setIfInBounds_toArray, List.set_cons_zero, List.set_cons_succ]
  refine Hl.takeL (i := 37) (d := 65) (v := ?_) rfl (by kernel_rfl) (by kernel_rfl) (by kernel_rfl) (fun _ _ _ h => h) (by rfl) ?_ (by first | assumption | trivial) ?_
  rotate_left
  · intro w hSw; obtain ⟨y0, y1, y2, y3, y4, y5, y6, y7, y8, y9, y10⟩ := hSw.mat; go_simp; (try with_reducible rfl)
  simp only [Act.put, List.setIfInBounds_toArray, List.set_cons_zero, List.set_cons_succ]
  refine Hl.takeL (i := 38) (d := 66) (v := ?_) rfl (by kernel_rfl) (by kernel_rfl) (by kernel_rfl) (fun _ _ _ h => h) (by rfl) ?_ (by first | assumption | trivial) ?_
  rotate_left
  · intro w hSw; obtain ⟨y0, y1, y2, y3, y4, y5, y6, y7, y8, y9, y10⟩ := hSw.mat; go_simp; (try with_reducible rfl)
  simp only [Act.put, List.setIfInBounds_toArray, List.set_cons_zero, List.set_cons_succ]
  refine Hl.consL (i := 30) rfl (by kernel_rfl) (fun K' hK' => ?_)
  go_simp
  refine (HWt.out _ HX.out HS.out).mono ?_
  rintro e w9 ⟨rfl, hb⟩
  replace HX : Hid (Bx W w9 W.heap.size m a) := HX.out.on hb
  clear hb hHeld
  try go_wp2_with fail
  refine hK'.out _ _ HX.out.row (fun hHeld => ?_)
  clear hK' K'
  refine Hl.consL (i := 36) rfl (by kernel_rfl) (fun K' hK' => ?_)
  go_simp
  refine (HBl.out _ HX.out).mono ?_
  rintro e w10 ⟨rfl, hb⟩
  replace HX : Hid (Bx W w10 W.heap.size m a) := HX.out.on hb
  clear hb hHeld
  try go_wp2_with fail
  refine hK'.out _ _ HX.out.row (fun hHeld => ?_)
  clear hK' K'
  refine Hl.takeL (i := 39) (d := 67) (v := ?_) rfl (by kernel_rfl) (by kernel_rfl) (by kernel_rfl) (fun _ _ _ h => h) (by rfl) ?_ (by first | assumption | trivial) ?_
  rotate_left
  · intro w hSw; obtain ⟨y0, y1, y2, y3, y4, y5, y6, y7, y8, y9, y10⟩ := hSw.mat; go_simp; (try with_reducible rfl)
  simp only [Act.put, List.setIfInBounds_toArray, List.set_cons_zero, List.set_cons_succ]
  refine Hl.takeL (i := 40) (d := 68) (v := ?_) rfl (by kernel_rfl) (by kernel_rfl) (by kernel_rfl) (fun _ _ _ h => h) (by rfl) ?_ (by first | assumption | trivial) ?_
  rotate_left
  · intro w hSw; obtain ⟨y0, y1, y2, y3, y4, y5, y6, y7, y8, y9, y10⟩ := hSw.mat; go_simp; (try with_reducible rfl)
  simp only [Act.put, List.setIfInBounds_toArray, List.set_cons_zero, List.set_cons_succ]
  refine Hl.takeL (i := 41) (d := 69) (v := ?_) rfl (by kernel_rfl) (by kernel_rfl) (by kernel_rfl) (fun _ _ _ h => h) (by rfl) ?_ (by first | assumption | trivial) ?_
  rotate_left
  · intro w hSw; obtain ⟨y0, y1, y2, y3, y4, y5, y6, y7, y8, y9, y10⟩ := hSw.mat; go_simp; (try with_reducible rfl)
  simp only [Act.put, List.setIfInBounds_toArray, List.set_cons_zero, List.set_cons_succ]
  refine Hl.takeL (i := 42) (d := 6) (v := ?_) rfl (by kernel_rfl) (by kernel_rfl) (by kernel_rfl) (fun _ _ _ h => h) (by rfl) ?_ (by first | assumption | trivial) ?_
  rotate_left
  · intro w hSw; obtain ⟨y0, y1, y2, y3, y4, y5, y6, y7, y8, y9, y10⟩ := hSw.mat; go_simp; (try with_reducible rfl)
  simp only [Act.put, List.setIfInBounds_toArray, List.set_cons_zero, List.set_cons_succ]
  refine wpAnyH_done (by kernel_rfl) ?_ _
  clear hHeld
  go_wp2
  go_ret
  exact ⟨rfl, HX.out.below⟩
end Go.Proofs.YtlfhneiddfgoaaaDoor.planOrder
