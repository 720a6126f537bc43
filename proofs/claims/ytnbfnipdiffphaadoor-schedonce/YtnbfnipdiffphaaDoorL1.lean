/- Layer 14: the document's Units, Step. -/
import Derived.Test.YtnbfnipdiffphaaDoorBc
import Derived.Test.YtnbfnipdiffphaaDoorLq
import Derived.Test.YtnbfnipdiffphaaDoorB2
import Derived.Deep.RegionHeld3
import Derived.Deep.CutBlock
import Derived.WalkArith
import Derived.WalkSpells
namespace Go.Proofs.YtnbfnipdiffphaaDoor
open Go.RowKit Go.WideShapes
set_option linter.unusedVariables false
theorem Mx.unit_wf {m : Mx.M} (h : Mx.Wf m) : -9223372036854775808 ≤ m.unit ∧ m.unit ≤ 9223372036854775807 := bounds_i64 h.unit
theorem Lq.units_bound {u b : Int} : 0 ≤ Lq.units u b ∧ Lq.units u b ≤ 4002 := by
  unfold Lq.units
  have h1 : 0 ≤ 4 * max 0 (min b 1000) ∧ 4 * max 0 (min b 1000) ≤ 4000 := by omega
  have h2 : 1 ≤ max 1 u := by omega
  generalize 4 * max 0 (min b 1000) = n at *
  generalize max 1 u = k at *
  have h3 : 0 ≤ n / k := Int.ediv_nonneg h1.1 (by omega)
  have h4 : n / k ≤ n := Int.ediv_le_self _ h1.1
  split <;> omega
set_option maxRecDepth 100000 in
set_option maxHeartbeats 4000000 in
theorem runits_any (w : World) (m : Mx.M) (a : Ma) (bits : Int) (hm : MIn w m a) (hu : (Lit.int .i64 m.unit).wf = true) : Calls Tryd.prog 35 #[mV m a, .int .i64 bits] w fun e w' => e = .returned (.int .i64 (Lq.units m.unit bits)) ∧ Below w.heap.size w w' := by
  have HX : Hid (Bx w (w.alloc (.cells (mCs m a) 27)) w.heap.size m a) := Bx.mk' hm
  obtain ⟨_, _, _, _, _, x5, _⟩ := HX.out.row.mat
  have hub := bounds_i64 hu
  show Calls _ _ #[.agg (mCs m a), _] _ _
  generalize mCs m a = cs at HX x5 ⊢
  clear hm hu
  unfold Lq.units
  obtain ⟨U, hU⟩ : ∃ U : Nat, max 1 m.unit = (U : Int) := Int.eq_ofNat_of_zero_le (by omega)
  obtain ⟨b1, hb1⟩ : ∃ b1, min bits 1000 = b1 := ⟨_, rfl⟩
  obtain ⟨B, hB⟩ : ∃ B : Nat, max 0 b1 = (B : Int) := Int.eq_ofNat_of_zero_le (by omega)
  have hU1 : 1 ≤ U := by omega
  have hUi : (U : Int) ≤ 9223372036854775807 := by omega
  have hB1 : (B : Int) ≤ 1000 := by omega
  rw [hU, hb1, hB]
  generalize m.unit = mu at *
  obtain ⟨q, hq⟩ : ∃ q : Nat, (4 * B) / U = q := ⟨_, rfl⟩
  obtain ⟨r, hr⟩ : ∃ r : Nat, (4 * B) % U = r := ⟨_, rfl⟩
  have e1 : (4 * (B : Int)).tdiv (U : Int) = (q : Int) := by rw [Int.tdiv_eq_ediv_of_nonneg (by omega), ← hq]; simp
  have e2 : (4 * (B : Int)).tmod (U : Int) = (r : Int) := by rw [Int.tmod_eq_emod_of_nonneg (by omega), ← hr]; simp
  have e3 : 4 * (B : Int) / (U : Int) = (q : Int) := by rw [← hq]; simp
  have e4 : 4 * (B : Int) % (U : Int) = (r : Int) := by rw [← hr]; simp
  have hq1 : (q : Int) ≤ 4000 := by
    have : q ≤ 4 * B := by rw [← hq]; exact Nat.div_le_self _ _
    omega
  have u0 : ¬ ((U : Int) = 0) := by omega
  have u1 : ¬ (U = 0) := by omega
  rw [e3, e4]
  clear hq hr hub hU1
  by_cases hr0 : r = 0
  · subst hr0
    go_enter Tryd.func35, Tryd.ntmps35
    go_wp2
    go_ret
    exact ⟨by simp, HX.out.below⟩
  · have r0 : ¬ ((r : Int) = 0) := by omega
    have r1 : ((r : Int) != 0) = true := by simpa [bne] using hr0
    go_enter Tryd.func35, Tryd.ntmps35
    go_wp2
    go_ret
    exact ⟨by first | rfl | simp, HX.out.below⟩
set_option maxRecDepth 100000 in
set_option maxHeartbeats 4000000 in
theorem rstep_any (w : World) (m : Mx.M) (a : Ma) (hm : MIn w m a) (hS : Mx.Small m) (hw : Mx.Wf m) : Calls Tryd.prog 22 #[mV m a] w fun e w' => e = .returned (.int .i64 (Lq.step m)) ∧ Below w.heap.size w w' := by
  have HX : Hid (Bx w (w.alloc (.cells (mCs m a) 27)) w.heap.size m a) := Bx.mk' hm
  obtain ⟨y0, y1, y2, y3, y4, y5, y6, y7, y8, y9, y10⟩ := HX.out.row.mat
  have HS : Hid (Mx.Small m) := hS
  have HU : Hid ((Lit.int .i64 m.unit).wf = true) := hw.unit
  obtain ⟨V, hV⟩ : ∃ V, Lq.step m = V := ⟨_, rfl⟩
  rw [hV]
  unfold Lq.step at hV
  go_enter Tryd.func22, Tryd.ntmps22
  go_wp2_with fail
  refine (ris_any _ m a HX.out.mem HS.out).mono ?_
  rintro e w1 ⟨rfl, hb⟩
  replace HX : Hid (Bx w w1 w.heap.size m a) := HX.out.on hb
  clear y0 y1 y2 y3 y4 y5 y6 y7 y8 y9 y10 hb hm
  cases hi : Mx.is m
  · rw [hi, if_neg (by simp)] at hV
    subst hV
    go_wp2
    go_ret
    exact ⟨rfl, HX.out.below⟩
  · rw [hi, if_pos rfl] at hV
    have hen : 1 ≤ m.enable ∧ m.enable ≤ 16 := by
      unfold Mx.is Mx.scal at hi
      simp only [Bool.and_eq_true, Pq.within_iff] at hi
      omega
    have hub := Lq.units_bound (u := m.unit) (b := 140)
    have HR : Hid (∀ w', Below w1.heap.size w1 w' → RowT 27 w' w.heap.size (mCs m a)) := fun w' hb => (HX.out.on hb).row
    have HC : Hid (∀ w', Below w1.heap.size w1 w' → Calls Tryd.prog 35 #[mV m a, .int .i64 140] w' fun e w'' => e = .returned (.int .i64 (Lq.units m.unit 140)) ∧ Below w'.heap.size w' w'') := fun w' hb => runits_any w' m a 140 (HX.out.on hb).mem HU.out
    have HB : Hid (Below w.heap.size w w1) := HX.out.below
    clear HX hi
    generalize Lq.units m.unit 140 = V0 at *
    subst hV
    obtain ⟨h1, h2⟩ := hen
    obtain ⟨h3, h4⟩ := hub
    go_wp2_with fail
    refine Lw.wp_region_quiet_below (by kernel_rfl) (by kernel_rfl) ?_
    repeat (first
      | go_big_quiet_skip
      | (go_big_quiet_want; go_big_quiet_op; go_big_quiet_on)
      | (go_big_quiet_want; go_big_quiet_op; apply Exists.intro; refine ⟨fun _ hb' => ?_, ?_⟩; (first
        | exact Lw.val_rfl _
        | (go_at_call 35; exact Lw.calls_below hb' (HC.out _ hb'))
        | (simp [go_sem, (HR.out _ hb').mat.2.2.2.2.1]; rfl)
        | (simp [go_sem, (HR.out _ hb').mat.1, (HR.out _ hb').mat.2.1, (HR.out _ hb').mat.2.2.1, (HR.out _ hb').mat.2.2.2.1, (HR.out _ hb').mat.2.2.2.2.1, (HR.out _ hb').mat.2.2.2.2.2.1, (HR.out _ hb').mat.2.2.2.2.2.2.1, (HR.out _ hb').mat.2.2.2.2.2.2.2.1, (HR.out _ hb').mat.2.2.2.2.2.2.2.2.1, (HR.out _ hb').mat.2.2.2.2.2.2.2.2.2.1, (HR.out _ hb').mat.2.2.2.2.2.2.2.2.2.2]; rfl)); go_big_quiet_on))
    refine wpQuiet_nil ?_
    intro wz hbz
    have HBz : Hid (Below w.heap.size w wz) := HB.out.trans (hbz.mono HB.out.size)
    clear hbz
    go_wp2
    go_ret
    exact ⟨rfl, HBz.out⟩
end Go.Proofs.YtnbfnipdiffphaaDoor
