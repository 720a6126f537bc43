/- Package check, over the landed code: Units, Step, Meet, and what is asked of one thing. -/
import Derived.Test.YtnbfnipdiffphaaDoorBh
import Derived.Test.YtnbfnipdiffphaaDoorL2
import Derived.Test.YtnbfnipdiffphaaDoorLp
import Derived.Deep.RegionHeld3
import Derived.Deep.CutBlock
import Derived.WalkArith
import Derived.WalkSpells
namespace Go.Proofs.YtnbfnipdiffphaaDoor
open Go.RowKit Go.WideShapes
set_option linter.unusedVariables false

set_option maxRecDepth 100000 in
set_option maxHeartbeats 4000000 in
theorem ck_has (w : World) (c a : Int) (hc : (Lit.int .i64 c).wf = true) : Calls Tryd.prog 65 #[.int .i64 c, .int .i64 a] w fun e w' => e = .returned (.bool (Mx.within a 0 (c - 1))) ∧ w' = w := by
  unfold Mx.within
  by_cases h1 : 0 ≤ a
  · rw [decide_eq_true h1, Bool.true_and]
    by_cases h2 : a < c
    · rw [decide_eq_true (show a ≤ c - 1 by omega)]
      go_enter Tryd.func65, Tryd.ntmps65
      go_wp2
      go_ret
      exact ⟨rfl, rfl⟩
    · rw [decide_eq_false (show ¬ a ≤ c - 1 by omega)]
      have h3 : c ≤ a := by omega
      go_enter Tryd.func65, Tryd.ntmps65
      go_wp2
      go_ret
      exact ⟨rfl, rfl⟩
  · rw [decide_eq_false h1, Bool.false_and]
    go_enter Tryd.func65, Tryd.ntmps65
    go_wp2
    go_ret
    exact ⟨rfl, rfl⟩

set_option maxRecDepth 100000 in
set_option maxHeartbeats 4000000 in
theorem ck_tell (w : World) (b : Bool) (x : Int) : Calls Tryd.prog 64 #[.bool b, .int .i64 x] w fun e w' => e = .returned (.int .i64 (if b then x else 0)) ∧ w' = w := by
  cases b
  · go_enter Tryd.func64, Tryd.ntmps64
    go_wp2
    go_ret
    exact ⟨rfl, rfl⟩
  · go_enter Tryd.func64, Tryd.ntmps64
    go_wp2
    go_ret
    exact ⟨rfl, rfl⟩

set_option maxRecDepth 100000 in
set_option maxHeartbeats 4000000 in
theorem ck_noRule (w : World) (x : Value) : Calls Tryd.prog 68 #[x] w fun e w' => e = .returned (.int .i64 0) ∧ w' = w := by
  go_enter Tryd.func68, Tryd.ntmps68
  go_wp2
  go_ret
  exact ⟨rfl, rfl⟩

set_option maxRecDepth 100000 in
set_option maxHeartbeats 4000000 in
theorem ck_noPair (w : World) (x y : Value) : Calls Tryd.prog 66 #[x, y] w fun e w' => e = .returned (.int .i64 0) ∧ w' = w := by
  go_enter Tryd.func66, Tryd.ntmps66
  go_wp2
  go_ret
  exact ⟨rfl, rfl⟩

set_option maxRecDepth 100000 in
set_option maxHeartbeats 4000000 in
theorem ck_units (w : World) (m : Mx.M) (a : Ma) (bits : Int) (hm : MIn w m a) (hu : (Lit.int .i64 m.unit).wf = true) : Calls Tryd.prog 61 #[mV m a, .int .i64 bits] w fun e w' => e = .returned (.int .i64 (Lq.units m.unit bits)) ∧ Below w.heap.size w w' := by
  have HX : Hid (Bx w (w.alloc (.cells (mCs m a) 27)) w.heap.size m a) := Bx.mk' hm
  obtain ⟨_, _, _, _, _, x5, _⟩ := HX.out.row.mat
  have hub := bounds_i64 hu
  show Calls _ _ #[.agg (mCs m a), _] _ _
  generalize mCs m a = cs at HX x5 ⊢
  clear hm hu
  unfold Lq.units
  obtain ⟨U, hU⟩ : ∃ U : Nat, max m.unit 1 = (U : Int) := Int.eq_ofNat_of_zero_le (by omega)
  obtain ⟨b1, hb1⟩ : ∃ b1, max bits 0 = b1 := ⟨_, rfl⟩
  obtain ⟨B, hB⟩ : ∃ B : Nat, min b1 1000 = (B : Int) := Int.eq_ofNat_of_zero_le (by omega)
  have hU1 : 1 ≤ U := by omega
  have hUi : (U : Int) ≤ 9223372036854775807 := by omega
  have hB1 : (B : Int) ≤ 1000 := by omega
  rw [show max 1 m.unit = (U : Int) by omega, show max 0 (min bits 1000) = (B : Int) by omega]
  generalize m.unit = mu at *
  obtain ⟨q, hq⟩ : ∃ q : Nat, (4 * B) / U = q := ⟨_, rfl⟩
  obtain ⟨r, hr⟩ : ∃ r : Nat, (4 * B) % U = r := ⟨_, rfl⟩
  have e1 : ((B : Int) * 4).tdiv (U : Int) = (q : Int) := by rw [Int.mul_comm, Int.tdiv_eq_ediv_of_nonneg (by omega), ← hq]; simp
  have e2 : ((B : Int) * 4).tmod (U : Int) = (r : Int) := by rw [Int.mul_comm, Int.tmod_eq_emod_of_nonneg (by omega), ← hr]; simp
  have e3 : 4 * (B : Int) / (U : Int) = (q : Int) := by rw [← hq]; simp
  have e4 : 4 * (B : Int) % (U : Int) = (r : Int) := by rw [← hr]; simp
  have hq1 : (q : Int) ≤ 4000 := by
    have : q ≤ 4 * B := by rw [← hq]; exact Nat.div_le_self _ _
    omega
  have u0 : ¬ ((U : Int) = 0) := by omega
  have u1 : ¬ (U = 0) := by omega
  rw [e3, e4]
  clear hq hr hub hU1
  by_cases hr0 : r = 0
  · subst hr0
    go_enter Tryd.func61, Tryd.ntmps61
    go_wp2
    go_ret
    exact ⟨by simp, HX.out.below⟩
  · have r0 : ¬ ((r : Int) = 0) := by omega
    have r1 : (0 : Int) < (r : Int) := by omega
    have r2 : 0 < r := by omega
    go_enter Tryd.func61, Tryd.ntmps61
    go_wp2
    go_ret
    exact ⟨by first | rfl | simp, HX.out.below⟩

set_option maxRecDepth 100000 in
set_option maxHeartbeats 4000000 in
theorem ck_step (w : World) (hT : Tab w) (m : Mx.M) (a : Ma) (hm : MIn w m a) (hS : Mx.Small m) (hw : Mx.Wf m) : Calls Tryd.prog 42 #[mV m a] w fun e w' => e = .returned (.int .i64 (Lq.step m)) ∧ Below w.heap.size w w' := by
  have HX : Hid (Bx w (w.alloc (.cells (mCs m a) 27)) w.heap.size m a) := Bx.mk' hm
  obtain ⟨y0, y1, y2, y3, y4, y5, y6, y7, y8, y9, y10⟩ := HX.out.row.mat
  have HS : Hid (Mx.Small m) := hS
  have HU : Hid ((Lit.int .i64 m.unit).wf = true) := hw.unit
  obtain ⟨V, hV⟩ : ∃ V, Lq.step m = V := ⟨_, rfl⟩
  rw [hV]
  unfold Lq.step at hV
  have HTb : Hid (∀ w', Below w.heap.size w w' → Tab w') := fun w' hb => hT.below hb
  go_enter Tryd.func42, Tryd.ntmps42
  go_wp2_with fail
  refine (mk_is _ (HTb.out _ HX.out.below) m a HX.out.mem HS.out).mono ?_
  rintro e w1 ⟨rfl, hb⟩
  replace HX : Hid (Bx w w1 w.heap.size m a) := HX.out.on hb
  clear y0 y1 y2 y3 y4 y5 y6 y7 y8 y9 y10 hb hm
  cases hi : Mx.is m
  · rw [hi, if_neg (by simp)] at hV
    subst hV
    go_wp2
    go_ret
    exact ⟨rfl, HX.out.below⟩
  · rw [hi, if_pos rfl] at hV
    have hen : 1 ≤ m.enable ∧ m.enable ≤ 16 := by
      unfold Mx.is Mx.scal at hi
      simp only [Bool.and_eq_true, Pq.within_iff] at hi
      omega
    have hub := Lq.units_bound14 (u := m.unit) (b := 140)
    have HR : Hid (∀ w', Below w1.heap.size w1 w' → RowT 27 w' w.heap.size (mCs m a)) := fun w' hb => (HX.out.on hb).row
    have HC : Hid (∀ w', Below w1.heap.size w1 w' → Calls Tryd.prog 61 #[mV m a, .int .i64 140] w' fun e w'' => e = .returned (.int .i64 (Lq.units m.unit 140)) ∧ Below w'.heap.size w' w'') := fun w' hb => ck_units w' m a 140 (HX.out.on hb).mem HU.out
    have HB : Hid (Below w.heap.size w w1) := HX.out.below
    clear HX hi HTb hT
    generalize Lq.units m.unit 140 = V0 at *
    subst hV
    obtain ⟨h1, h2⟩ := hen
    obtain ⟨h3, h4⟩ := hub
    go_wp2_with fail
    refine Lw.wp_region_quiet_below (by kernel_rfl) (by kernel_rfl) ?_
    repeat (first
      | go_big_quiet_skip
      | (go_big_quiet_want; go_big_quiet_op; go_big_quiet_on)
      | (go_big_quiet_want; go_big_quiet_op; apply Exists.intro; refine ⟨fun _ hb' => ?_, ?_⟩; (first
        | exact Lw.val_rfl _
        | (go_at_call 61; exact Lw.calls_below hb' (HC.out _ hb'))
        | (simp [go_sem, (HR.out _ hb').mat.2.2.2.2.1]; rfl)
        | (simp [go_sem, (HR.out _ hb').mat.1, (HR.out _ hb').mat.2.1, (HR.out _ hb').mat.2.2.1, (HR.out _ hb').mat.2.2.2.1, (HR.out _ hb').mat.2.2.2.2.1, (HR.out _ hb').mat.2.2.2.2.2.1, (HR.out _ hb').mat.2.2.2.2.2.2.1, (HR.out _ hb').mat.2.2.2.2.2.2.2.1, (HR.out _ hb').mat.2.2.2.2.2.2.2.2.1, (HR.out _ hb').mat.2.2.2.2.2.2.2.2.2.1, (HR.out _ hb').mat.2.2.2.2.2.2.2.2.2.2]; rfl)); go_big_quiet_on))
    refine wpQuiet_nil ?_
    intro wz hbz
    have HBz : Hid (Below w.heap.size w wz) := HB.out.trans (hbz.mono HB.out.size)
    clear hbz
    go_wp2
    go_ret
    exact ⟨rfl, HBz.out⟩

set_option maxRecDepth 100000 in
set_option maxHeartbeats 4000000 in
theorem ck_together (w : World) (x y : Mx.Win) (cy : Int) (h1 : (Lit.int .i64 x.cycle).wf = true) (h2 : (Lit.int .i64 y.cycle).wf = true) : Calls Tryd.prog 82 #[.agg (mC3 x).toArray, .agg (mC3 y).toArray, .int .i64 cy] w fun e w' => e = .returned (.bool ((List.range 8).any (Lq.both cy x y))) ∧ Below w.heap.size w w' := by
  have hs : (w.alloc (.cells (mC3 x).toArray 58)).heap.size = w.heap.size + 1 := by simp
  have r1 : RowT 58 ((w.alloc (.cells (mC3 x).toArray 58)).alloc (.cells (mC3 y).toArray 58)) w.heap.size (mC3 x).toArray := (RowT.new _ w _).on ((Below.refl _ _).alloc (Nat.le_refl _) _)
  have r2 : RowT 58 ((w.alloc (.cells (mC3 x).toArray 58)).alloc (.cells (mC3 y).toArray 58)) (w.heap.size + 1) (mC3 y).toArray := by
    have := RowT.new 58 (w.alloc (.cells (mC3 x).toArray 58)) (mC3 y).toArray
    rwa [hs] at this
  have HB : Hid (Below w.heap.size w ((w.alloc (.cells (mC3 x).toArray 58)).alloc (.cells (mC3 y).toArray 58))) := ((Below.refl _ _).alloc (Nat.le_refl _) _).alloc (by simp) _
  have x3 := r1.c 3 (.int .i64 x.cycle) rfl
  have x4 := r1.c 4 (.int .i64 x.rep) rfl
  have y3 := r2.c 3 (.int .i64 y.cycle) rfl
  have y4 := r2.c 4 (.int .i64 y.rep) rfl
  have HWx : Hid ((Lit.int .i64 x.cycle).wf = true) := h1
  have HWy : Hid ((Lit.int .i64 y.cycle).wf = true) := h2
  clear hs r1 r2 h1 h2
  generalize (mC3 x).toArray = cx at *
  generalize (mC3 y).toArray = cv at *
  obtain ⟨n, hn⟩ : ∃ n, min cy 8 = n := ⟨_, rfl⟩
  have HN : Hid (min cy 8 = n) := hn
  have hn8 : n ≤ 8 := by omega
  obtain ⟨R, hR⟩ : ∃ R, (List.range 8).any (Lq.both cy x y) = R := ⟨_, rfl⟩
  have HE : Hid (R = (List.range 8).any (Lq.both cy x y)) := hR.symm
  rw [hR]
  clear hR
  go_enter Tryd.func82, Tryd.ntmps82
  go_wp2_with fail
  generalize (w.alloc (.cells cx 58)).alloc (.cells cv 58) = wc at *
  go_loopw [10, 7] (fun vi _ wr => ∃ k : Nat, k ≤ 8 ∧ vi = .int .i64 (k : Int) ∧ wr = wc ∧ Hid (∀ c, c < k → Lq.both cy x y c = false)) (fun vi _ _ => 8 - (intOf vi).toNat)
  case atStart => exact ⟨0, Nat.zero_le _, rfl, rfl, fun c hc => absurd hc (Nat.not_lt_zero _)⟩
  case round =>
    obtain ⟨k, hk, rfl, rfl, HF⟩ := hrel
    have HCm : Hid (∀ cy rp, (Lit.int .i64 cy).wf = true → Calls Tryd.prog 36 #[.int .i64 cy, .int .i64 rp, .int .i64 (k : Int)] wr fun e w' => e = .returned (.bool (Mx.comes cy rp (k : Int))) ∧ w' = wr) := fun cy rp h => mk_comes wr cy rp (k : Int) h (wfi (by omega))
    by_cases hc : (k : Int) < n
    · have hcy : (k : Int) < cy := by have := HN.out; omega
      clear hn
      cases hm1 : Mx.comes x.cycle x.rep (k : Int)
      · have HF2 : Hid (∀ c, c < k + 1 → Lq.both cy x y c = false) := Lq.upto_b HF.out (by unfold Lq.both; rw [hm1]; simp)
        go_wp2_with fail
        refine (HCm.out _ _ HWx.out).mono ?_
        rintro e w9 ⟨rfl, rfl⟩
        rw [hm1]
        go_wp2_with fail
        go_roundw
        case rel => exact ⟨k + 1, by omega, rfl, (by first | rfl | trivial), HF2⟩
        case measure => simp only [intOf]; omega
      · cases hm2 : Mx.comes y.cycle y.rep (k : Int)
        · have HF2 : Hid (∀ c, c < k + 1 → Lq.both cy x y c = false) := Lq.upto_b HF.out (by unfold Lq.both; rw [hm2]; simp)
          go_wp2_with fail
          refine (HCm.out _ _ HWx.out).mono ?_
          rintro e w9 ⟨rfl, rfl⟩
          rw [hm1]
          go_wp2_with fail
          refine (HCm.out _ _ HWy.out).mono ?_
          rintro e w9 ⟨rfl, rfl⟩
          rw [hm2]
          go_wp2_with fail
          go_roundw
          case rel => exact ⟨k + 1, by omega, rfl, (by first | rfl | trivial), HF2⟩
          case measure => simp only [intOf]; omega
        · have hR : R = true := by
            rw [HE.out, List.any_eq_true]
            exact ⟨k, List.mem_range.2 (by omega), by unfold Lq.both; rw [decide_eq_true hcy, hm1, hm2]; rfl⟩
          go_wp2_with fail
          refine (HCm.out _ _ HWx.out).mono ?_
          rintro e w9 ⟨rfl, rfl⟩
          rw [hm1]
          go_wp2_with fail
          refine (HCm.out _ _ HWy.out).mono ?_
          rintro e w9 ⟨rfl, rfl⟩
          rw [hm2]
          go_wp2
          go_ret
          exact ⟨by first | rfl | (rw [hR]; rfl), HB.out⟩
    · have hR : R = false := by
        rw [HE.out]
        exact Lq.any_none (fun c hc8 => by
          by_cases hck : c < k
          · exact HF.out c hck
          · unfold Lq.both; rw [decide_eq_false (by have := HN.out; omega)]; rfl)
      clear hn
      go_wp2
      go_ret
      exact ⟨by first | rfl | (rw [hR]; rfl), HB.out⟩

set_option maxRecDepth 100000 in
set_option maxHeartbeats 4000000 in
theorem ck_meet (w : World) (m : Mx.M) (a : Ma) (i0 j0 : Int) (hm : MIn w m a) (hS : Mx.Small m) (hwf : Mx.Wf m) : Calls Tryd.prog 76 #[mV m a, .int .i64 i0, .int .i64 j0] w fun e w' => e = .returned (.bool (Lq.meet m i0 j0)) ∧ Below w.heap.size w w' := by
  have HX : Hid (Bx w (w.alloc (.cells (mCs m a) 27)) w.heap.size m a) := Bx.mk' hm
  have hl := hS.c
  have hl1 : (m.windows.length : Int) ≤ 1000 := by omega
  have y10 := HX.out.row.mat.2.2.2.2.2.2.2.2.2.2
  have hW1 : ∀ (w1 : World) (n : Int), Calls Tryd.prog 65 #[.int .i64 (m.windows.length : Int), .int .i64 n] w1 fun e w' => e = .returned (.bool (Mx.within n 0 ((m.windows.length : Int) - 1))) ∧ w' = w1 := fun w1 n => ck_has w1 _ n (wfi (by omega))
  have HW1 : Hid (∀ (w1 : World) (n : Int), Calls Tryd.prog 65 #[.int .i64 (m.windows.length : Int), .int .i64 n] w1 fun e w' => e = .returned (.bool (Mx.within n 0 ((m.windows.length : Int) - 1))) ∧ w' = w1) := hW1
  show Calls _ _ #[.agg (mCs m a), _, _] _ _
  clear hm hS hl hW1
  obtain ⟨R, hR⟩ : ∃ R, Lq.meet m i0 j0 = R := ⟨_, rfl⟩
  rw [hR]
  generalize mCs m a = cs at HX y10 ⊢
  cases h1 : Mx.within i0 0 ((m.windows.length : Int) - 1)
  · have hR0 : R = false := by rw [← hR, Lq.meet, Lq.getW_none h1]
    subst hR0
    clear hR
    go_enter Tryd.func76, Tryd.ntmps76
    go_wp2_with fail
    refine (HW1.out _ _).mono ?_
    rintro e w9 ⟨rfl, rfl⟩
    rw [h1]
    go_wp2
    go_ret
    exact ⟨rfl, HX.out.below⟩
  cases h2 : Mx.within j0 0 ((m.windows.length : Int) - 1)
  · have hR0 : R = false := by rw [← hR, Lq.meet, Lq.getW_none h2]; cases Lq.getW m i0 <;> rfl
    subst hR0
    clear hR
    go_enter Tryd.func76, Tryd.ntmps76
    go_wp2_with fail
    refine (HW1.out _ _).mono ?_
    rintro e w9 ⟨rfl, rfl⟩
    rw [h1]
    go_wp2_with fail
    refine (HW1.out _ _).mono ?_
    rintro e w9 ⟨rfl, rfl⟩
    rw [h2]
    go_wp2
    go_ret
    exact ⟨rfl, HX.out.below⟩
  · obtain ⟨i, x, rfl, hi, hx, gx⟩ := Lq.getW_some h1
    obtain ⟨j, y, rfl, hj, hy, gy⟩ := Lq.getW_some h2
    have HRe : Hid (R = Lq.meetW m.cycles x y) := by show R = _; rw [← hR, Lq.meet, gx, gy]
    have HWx : Hid ((Lit.int .i64 x.cycle).wf = true) := (hwf.windows x (List.mem_of_getElem? hx)).2.2.2.1
    have HWy : Hid ((Lit.int .i64 y.cycle).wf = true) := (hwf.windows y (List.mem_of_getElem? hy)).2.2.2.1
    have hii : (i : Int) < (m.windows.length : Int) := by omega
    have hji : (j : Int) < (m.windows.length : Int) := by omega
    obtain ⟨gw, ow, hs, _⟩ := HX.out.mem.window hx
    clear hR gx gy hwf hi hj
    go_enter Tryd.func76, Tryd.ntmps76
    go_wp2_with fail
    refine (HW1.out _ _).mono ?_
    rintro e w9 ⟨rfl, rfl⟩
    rw [h1]
    go_wp2_with fail
    refine (HW1.out _ _).mono ?_
    rintro e w9 ⟨rfl, rfl⟩
    rw [h2]
    generalize w.alloc (.cells cs 27) = wB at HX y10 ⊢
    clear h1 h2 y10 HW1
    have HC : Hid (∀ w', Below wB.heap.size wB w' → w'.cell? ⟨w.heap.size, 10, none⟩ = some (.slice (some ⟨gw, ow, none⟩) m.windows.length a.c3) ∧ (w'.cell? ⟨gw, ow + i * 6, none⟩ = some (.int .i64 x.kind) ∧ w'.cell? ⟨gw, ow + i * 6 + 1, none⟩ = some (.int .i64 x.start) ∧ w'.cell? ⟨gw, ow + i * 6 + 2, none⟩ = some (.int .i64 x.fin) ∧ w'.cell? ⟨gw, ow + i * 6 + 3, none⟩ = some (.int .i64 x.cycle) ∧ w'.cell? ⟨gw, ow + i * 6 + 4, none⟩ = some (.int .i64 x.rep) ∧ w'.cell? ⟨gw, ow + i * 6 + 5, none⟩ = some (.int .i64 x.msg)) ∧ (w'.cell? ⟨gw, ow + j * 6, none⟩ = some (.int .i64 y.kind) ∧ w'.cell? ⟨gw, ow + j * 6 + 1, none⟩ = some (.int .i64 y.start) ∧ w'.cell? ⟨gw, ow + j * 6 + 2, none⟩ = some (.int .i64 y.fin) ∧ w'.cell? ⟨gw, ow + j * 6 + 3, none⟩ = some (.int .i64 y.cycle) ∧ w'.cell? ⟨gw, ow + j * 6 + 4, none⟩ = some (.int .i64 y.rep) ∧ w'.cell? ⟨gw, ow + j * 6 + 5, none⟩ = some (.int .i64 y.msg))) := fun w' hb => by
      have h10 := (HX.out.on hb).row.mat.2.2.2.2.2.2.2.2.2.2
      obtain ⟨g1, o1, e1, _, q⟩ := (HX.out.on hb).mem.window hx
      obtain ⟨g2, o2, e2, _, q2⟩ := (HX.out.on hb).mem.window hy
      rw [hs] at e1 e2 h10
      injection e1 with e1
      injection e1 with e1 e1o
      injection e2 with e2
      injection e2 with e2 e2o
      subst e1 e1o e2 e2o
      exact ⟨h10, q, q2⟩
    clear hs
    go_wp2_with fail
    go_cut [7, 8] from 23 (fun v7 v8 wx => ∃ q7 q8, v7 = Ob.ptr q7 ∧ v8 = Ob.ptr q8 ∧ Hid (RowT 58 wx q7 (mC3 x).toArray) ∧ Hid (RowT 58 wx q8 (mC3 y).toArray) ∧ Hid (Below wB.heap.size wB wx))
    case first =>
      refine wp_region_held_drew (S := fun w' => Below wB.heap.size wB w') (by kernel_rfl) (Below.refl _ _).drew (fun hHeld => ?_)
      refine Hl.takeL (i := 0) (d := 23) (v := ?_) rfl (by kernel_rfl) (by kernel_rfl) (by kernel_rfl) (fun _ _ _ h => h) (by rfl) ?_ (by first | assumption | trivial) ?_
      rotate_left
      · intro w hSw; obtain ⟨z10, ⟨x0, x1, x2, x3, x4, x5⟩, ⟨y0, y1, y2, y3, y4, y5⟩⟩ := HC.out _ hSw; go_simp; (try with_reducible rfl)
      simp only [Act.put, List.setIfInBounds_toArray, List.set_cons_zero, List.set_cons_succ]
      refine Hl.takeL (i := 1) (d := 24) (v := ?_) rfl (by kernel_rfl) (by kernel_rfl) (by kernel_rfl) (fun _ _ _ h => h) (by rfl) ?_ (by first | assumption | trivial) ?_
      rotate_left
      · intro w hSw; obtain ⟨z10, ⟨x0, x1, x2, x3, x4, x5⟩, ⟨y0, y1, y2, y3, y4, y5⟩⟩ := HC.out _ hSw; go_simp; (try with_reducible rfl)
      simp only [Act.put, List.setIfInBounds_toArray, List.set_cons_zero, List.set_cons_succ]
      refine Hl.takeL (i := 2) (d := 25) (v := ?_) rfl (by kernel_rfl) (by kernel_rfl) (by kernel_rfl) (fun _ _ _ h => h) (by rfl) ?_ (by first | assumption | trivial) ?_
      rotate_left
      · intro w hSw; obtain ⟨z10, ⟨x0, x1, x2, x3, x4, x5⟩, ⟨y0, y1, y2, y3, y4, y5⟩⟩ := HC.out _ hSw; go_simp; (try with_reducible rfl)
      simp only [Act.put, List.setIfInBounds_toArray, List.set_cons_zero, List.set_cons_succ]
      refine Hl.takeL (i := 3) (d := 26) (v := ?_) rfl (by kernel_rfl) (by kernel_rfl) (by kernel_rfl) (fun _ _ _ h => h) (by rfl) ?_ (by first | assumption | trivial) ?_
      rotate_left
      · intro w hSw; obtain ⟨z10, ⟨x0, x1, x2, x3, x4, x5⟩, ⟨y0, y1, y2, y3, y4, y5⟩⟩ := HC.out _ hSw; go_simp; (try with_reducible rfl)
      simp only [Act.put, List.setIfInBounds_toArray, List.set_cons_zero, List.set_cons_succ]
      refine Hl.takeL (i := 4) (d := 27) (v := ?_) rfl (by kernel_rfl) (by kernel_rfl) (by kernel_rfl) (fun _ _ _ h => h) (by rfl) ?_ (by first | assumption | trivial) ?_
      rotate_left
      · intro w hSw; obtain ⟨z10, ⟨x0, x1, x2, x3, x4, x5⟩, ⟨y0, y1, y2, y3, y4, y5⟩⟩ := HC.out _ hSw; go_simp; (try with_reducible rfl)
      simp only [Act.put, List.setIfInBounds_toArray, List.set_cons_zero, List.set_cons_succ]
      refine Hl.takeL (i := 5) (d := 28) (v := ?_) rfl (by kernel_rfl) (by kernel_rfl) (by kernel_rfl) (fun _ _ _ h => h) (by rfl) ?_ (by first | assumption | trivial) ?_
      rotate_left
      · intro w hSw; obtain ⟨z10, ⟨x0, x1, x2, x3, x4, x5⟩, ⟨y0, y1, y2, y3, y4, y5⟩⟩ := HC.out _ hSw; go_simp; (try with_reducible rfl)
      simp only [Act.put, List.setIfInBounds_toArray, List.set_cons_zero, List.set_cons_succ]
      refine Hl.takeL (i := 6) (d := 29) (v := ?_) rfl (by kernel_rfl) (by kernel_rfl) (by kernel_rfl) (fun _ _ _ h => h) (by rfl) ?_ (by first | assumption | trivial) ?_
      rotate_left
      · intro w hSw; obtain ⟨z10, ⟨x0, x1, x2, x3, x4, x5⟩, ⟨y0, y1, y2, y3, y4, y5⟩⟩ := HC.out _ hSw; go_simp; (try with_reducible rfl)
      simp only [Act.put, List.setIfInBounds_toArray, List.set_cons_zero, List.set_cons_succ]
      refine Hl.takeL (i := 7) (d := 30) (v := ?_) rfl (by kernel_rfl) (by kernel_rfl) (by kernel_rfl) (fun _ _ _ h => h) (by rfl) ?_ (by first | assumption | trivial) ?_
      rotate_left
      · intro w hSw; obtain ⟨z10, ⟨x0, x1, x2, x3, x4, x5⟩, ⟨y0, y1, y2, y3, y4, y5⟩⟩ := HC.out _ hSw; go_simp; (try with_reducible rfl)
      simp only [Act.put, List.setIfInBounds_toArray, List.set_cons_zero, List.set_cons_succ]
      refine Hl.takeL (i := 8) (d := 31) (v := ?_) rfl (by kernel_rfl) (by kernel_rfl) (by kernel_rfl) (fun _ _ _ h => h) (by rfl) ?_ (by first | assumption | trivial) ?_
      rotate_left
      · intro w hSw; obtain ⟨z10, ⟨x0, x1, x2, x3, x4, x5⟩, ⟨y0, y1, y2, y3, y4, y5⟩⟩ := HC.out _ hSw; go_simp; (try with_reducible rfl)
      simp only [Act.put, List.setIfInBounds_toArray, List.set_cons_zero, List.set_cons_succ]
      refine Hl.takeL (i := 9) (d := 32) (v := ?_) rfl (by kernel_rfl) (by kernel_rfl) (by kernel_rfl) (fun _ _ _ h => h) (by rfl) ?_ (by first | assumption | trivial) ?_
      rotate_left
      · intro w hSw; obtain ⟨z10, ⟨x0, x1, x2, x3, x4, x5⟩, ⟨y0, y1, y2, y3, y4, y5⟩⟩ := HC.out _ hSw; go_simp; (try with_reducible rfl)
      simp only [Act.put, List.setIfInBounds_toArray, List.set_cons_zero, List.set_cons_succ]
      refine Hl.consL2 (i := 10) (j := 11) rfl rfl (by kernel_rfl) (fun K' hK' => ?_) (fun K' hK' => ?_)
      · go_simp
        refine hK'.out _ _ (hHeld.alloc (Nat.le_refl _) _) (fun hHeld => ?_)
        clear hK' K'
        refine Hl.consL (i := 11) rfl (by kernel_rfl) (fun K' hK' => ?_)
        go_simp
        have hb2 : Below wB.heap.size wB ((wB.alloc (.cells #[.int .i64 0, .int .i64 0, .int .i64 0, .int .i64 0, .int .i64 0, .int .i64 0] 58)).alloc (.cells #[.int .i64 0, .int .i64 0, .int .i64 0, .int .i64 0, .int .i64 0, .int .i64 0] 58)).drew := hHeld.alloc (by simp) _
        have r1 : RowT 58 ((wB.alloc (.cells #[.int .i64 0, .int .i64 0, .int .i64 0, .int .i64 0, .int .i64 0, .int .i64 0] 58)).alloc (.cells #[.int .i64 0, .int .i64 0, .int .i64 0, .int .i64 0, .int .i64 0, .int .i64 0] 58)).drew wB.heap.size #[.int .i64 0, .int .i64 0, .int .i64 0, .int .i64 0, .int .i64 0, .int .i64 0] := (RowT.new _ wB _).on (((Below.refl _ _).alloc (Nat.le_refl _) _).drew)
        have r2 : RowT 58 ((wB.alloc (.cells #[.int .i64 0, .int .i64 0, .int .i64 0, .int .i64 0, .int .i64 0, .int .i64 0] 58)).alloc (.cells #[.int .i64 0, .int .i64 0, .int .i64 0, .int .i64 0, .int .i64 0, .int .i64 0] 58)).drew (wB.heap.size + 1) #[.int .i64 0, .int .i64 0, .int .i64 0, .int .i64 0, .int .i64 0, .int .i64 0] := by
          have := RowT.new 58 (wB.alloc (.cells #[.int .i64 0, .int .i64 0, .int .i64 0, .int .i64 0, .int .i64 0, .int .i64 0] 58)) #[.int .i64 0, .int .i64 0, .int .i64 0, .int .i64 0, .int .i64 0, .int .i64 0]
          rwa [show (wB.alloc (.cells #[.int .i64 0, .int .i64 0, .int .i64 0, .int .i64 0, .int .i64 0, .int .i64 0] 58)).heap.size = wB.heap.size + 1 by simp] at this
        refine hK'.out _ _ hb2 (fun hHeld2 => ?_)
        clear hK' K' hHeld2 hHeld
        generalize ((wB.alloc (.cells #[.int .i64 0, .int .i64 0, .int .i64 0, .int .i64 0, .int .i64 0, .int .i64 0] 58)).alloc (.cells #[.int .i64 0, .int .i64 0, .int .i64 0, .int .i64 0, .int .i64 0, .int .i64 0] 58)).drew = wA at hb2 r1 r2 ⊢
        refine Hl.consL (i := 12) rfl (by kernel_rfl) (fun K' hK' => ?_)
        refine Hl.step_store_row rfl 58 (.tmp 7) (.tmp 27) rfl wB.heap.size (mC3 x).toArray rfl rfl 58 _ r1 winfo14 rfl (mc3_one x) ?_
        have s1 : RowT 58 (wA.setRow wB.heap.size (mC3 x).toArray) wB.heap.size (mC3 x).toArray := setRow_heap _ _ _ _ _ _ r1
        have s2 : RowT 58 (wA.setRow wB.heap.size (mC3 x).toArray) (wB.heap.size + 1) #[.int .i64 0, .int .i64 0, .int .i64 0, .int .i64 0, .int .i64 0, .int .i64 0] := (setRow_other _ _ _ _ (by omega)).trans r2
        have hb3 : Below wB.heap.size wB (wA.setRow wB.heap.size (mC3 x).toArray) := below_setRow hb2 (by omega) _
        refine hK'.out _ _ hb3 (fun hHeld2 => ?_)
        clear hK' K' hHeld2 r1 r2 hb2
        generalize wA.setRow wB.heap.size (mC3 x).toArray = wA2 at s1 s2 hb3 ⊢
        refine Hl.consL (i := 13) rfl (by kernel_rfl) (fun K' hK' => ?_)
        refine Hl.step_store_row rfl 58 (.tmp 8) (.tmp 32) rfl (wB.heap.size + 1) (mC3 y).toArray rfl rfl 58 _ s2 winfo14 rfl (mc3_one y) ?_
        have t1 : RowT 58 (wA2.setRow (wB.heap.size + 1) (mC3 y).toArray) wB.heap.size (mC3 x).toArray := (setRow_other _ _ _ _ (by omega)).trans s1
        have t2 : RowT 58 (wA2.setRow (wB.heap.size + 1) (mC3 y).toArray) (wB.heap.size + 1) (mC3 y).toArray := setRow_heap _ _ _ _ _ _ s2
        have hb4 : Below wB.heap.size wB (wA2.setRow (wB.heap.size + 1) (mC3 y).toArray) := below_setRow hb3 (by omega) _
        refine hK'.out _ _ hb4 (fun hHeld2 => ?_)
        clear hK' K' hHeld2 s1 s2 hb3
        refine wpAnyH_done (by kernel_rfl) ?_ _
        go_wp2_with fail
        go_meet
        case rel => exact ⟨_, _, rfl, rfl, t1, t2, hb4⟩
      · go_simp
        refine hK'.out _ _ (hHeld.alloc (Nat.le_refl _) _) (fun hHeld => ?_)
        clear hK' K'
        refine Hl.consL (i := 10) rfl (by kernel_rfl) (fun K' hK' => ?_)
        go_simp
        have hb2 : Below wB.heap.size wB ((wB.alloc (.cells #[.int .i64 0, .int .i64 0, .int .i64 0, .int .i64 0, .int .i64 0, .int .i64 0] 58)).alloc (.cells #[.int .i64 0, .int .i64 0, .int .i64 0, .int .i64 0, .int .i64 0, .int .i64 0] 58)).drew := hHeld.alloc (by simp) _
        have r1 : RowT 58 ((wB.alloc (.cells #[.int .i64 0, .int .i64 0, .int .i64 0, .int .i64 0, .int .i64 0, .int .i64 0] 58)).alloc (.cells #[.int .i64 0, .int .i64 0, .int .i64 0, .int .i64 0, .int .i64 0, .int .i64 0] 58)).drew wB.heap.size #[.int .i64 0, .int .i64 0, .int .i64 0, .int .i64 0, .int .i64 0, .int .i64 0] := (RowT.new _ wB _).on (((Below.refl _ _).alloc (Nat.le_refl _) _).drew)
        have r2 : RowT 58 ((wB.alloc (.cells #[.int .i64 0, .int .i64 0, .int .i64 0, .int .i64 0, .int .i64 0, .int .i64 0] 58)).alloc (.cells #[.int .i64 0, .int .i64 0, .int .i64 0, .int .i64 0, .int .i64 0, .int .i64 0] 58)).drew (wB.heap.size + 1) #[.int .i64 0, .int .i64 0, .int .i64 0, .int .i64 0, .int .i64 0, .int .i64 0] := by
          have := RowT.new 58 (wB.alloc (.cells #[.int .i64 0, .int .i64 0, .int .i64 0, .int .i64 0, .int .i64 0, .int .i64 0] 58)) #[.int .i64 0, .int .i64 0, .int .i64 0, .int .i64 0, .int .i64 0, .int .i64 0]
          rwa [show (wB.alloc (.cells #[.int .i64 0, .int .i64 0, .int .i64 0, .int .i64 0, .int .i64 0, .int .i64 0] 58)).heap.size = wB.heap.size + 1 by simp] at this
        refine hK'.out _ _ hb2 (fun hHeld2 => ?_)
        clear hK' K' hHeld2 hHeld
        generalize ((wB.alloc (.cells #[.int .i64 0, .int .i64 0, .int .i64 0, .int .i64 0, .int .i64 0, .int .i64 0] 58)).alloc (.cells #[.int .i64 0, .int .i64 0, .int .i64 0, .int .i64 0, .int .i64 0, .int .i64 0] 58)).drew = wA at hb2 r1 r2 ⊢
        refine Hl.consL (i := 12) rfl (by kernel_rfl) (fun K' hK' => ?_)
        refine Hl.step_store_row rfl 58 (.tmp 7) (.tmp 27) rfl (wB.heap.size + 1) (mC3 x).toArray rfl rfl 58 _ r2 winfo14 rfl (mc3_one x) ?_
        have s1 : RowT 58 (wA.setRow (wB.heap.size + 1) (mC3 x).toArray) (wB.heap.size + 1) (mC3 x).toArray := setRow_heap _ _ _ _ _ _ r2
        have s2 : RowT 58 (wA.setRow (wB.heap.size + 1) (mC3 x).toArray) wB.heap.size #[.int .i64 0, .int .i64 0, .int .i64 0, .int .i64 0, .int .i64 0, .int .i64 0] := (setRow_other _ _ _ _ (by omega)).trans r1
        have hb3 : Below wB.heap.size wB (wA.setRow (wB.heap.size + 1) (mC3 x).toArray) := below_setRow hb2 (by omega) _
        refine hK'.out _ _ hb3 (fun hHeld2 => ?_)
        clear hK' K' hHeld2 r1 r2 hb2
        generalize wA.setRow (wB.heap.size + 1) (mC3 x).toArray = wA2 at s1 s2 hb3 ⊢
        refine Hl.consL (i := 13) rfl (by kernel_rfl) (fun K' hK' => ?_)
        refine Hl.step_store_row rfl 58 (.tmp 8) (.tmp 32) rfl wB.heap.size (mC3 y).toArray rfl rfl 58 _ s2 winfo14 rfl (mc3_one y) ?_
        have t1 : RowT 58 (wA2.setRow wB.heap.size (mC3 y).toArray) (wB.heap.size + 1) (mC3 x).toArray := (setRow_other _ _ _ _ (by omega)).trans s1
        have t2 : RowT 58 (wA2.setRow wB.heap.size (mC3 y).toArray) wB.heap.size (mC3 y).toArray := setRow_heap _ _ _ _ _ _ s2
        have hb4 : Below wB.heap.size wB (wA2.setRow wB.heap.size (mC3 y).toArray) := below_setRow hb3 (by omega) _
        refine hK'.out _ _ hb4 (fun hHeld2 => ?_)
        clear hK' K' hHeld2 s1 s2 hb3
        refine wpAnyH_done (by kernel_rfl) ?_ _
        go_wp2_with fail
        go_meet
        case rel => exact ⟨_, _, rfl, rfl, t1, t2, hb4⟩
    case rest =>
      obtain ⟨q7, q8, rfl, rfl, HR7, HR8, HB2⟩ := hcut
      have x0 : wc.cell? ⟨q7, 0, none⟩ = some (.int .i64 x.kind) := HR7.out.c 0 _ rfl
      have x1 : wc.cell? ⟨q7, 1, none⟩ = some (.int .i64 x.start) := HR7.out.c 1 _ rfl
      have x2 : wc.cell? ⟨q7, 2, none⟩ = some (.int .i64 x.fin) := HR7.out.c 2 _ rfl
      have x3 : wc.cell? ⟨q7, 3, none⟩ = some (.int .i64 x.cycle) := HR7.out.c 3 _ rfl
      have x4 : wc.cell? ⟨q7, 4, none⟩ = some (.int .i64 x.rep) := HR7.out.c 4 _ rfl
      have x5 : wc.cell? ⟨q7, 5, none⟩ = some (.int .i64 x.msg) := HR7.out.c 5 _ rfl
      have z0 : wc.cell? ⟨q8, 0, none⟩ = some (.int .i64 y.kind) := HR8.out.c 0 _ rfl
      have z1 : wc.cell? ⟨q8, 1, none⟩ = some (.int .i64 y.start) := HR8.out.c 1 _ rfl
      have z2 : wc.cell? ⟨q8, 2, none⟩ = some (.int .i64 y.fin) := HR8.out.c 2 _ rfl
      have z3 : wc.cell? ⟨q8, 3, none⟩ = some (.int .i64 y.cycle) := HR8.out.c 3 _ rfl
      have z4 : wc.cell? ⟨q8, 4, none⟩ = some (.int .i64 y.rep) := HR8.out.c 4 _ rfl
      have z5 : wc.cell? ⟨q8, 5, none⟩ = some (.int .i64 y.msg) := HR8.out.c 5 _ rfl
      have HXc : Hid (Bx w wc w.heap.size m a) := HX.out.on HB2.out
      have y2 := HXc.out.row.mat.2.2.1
      have HCt : Hid (Calls Tryd.prog 82 #[.agg (mC3 x).toArray, .agg (mC3 y).toArray, .int .i64 m.cycles] wc fun e w' => e = .returned (.bool ((List.range 8).any (Lq.both m.cycles x y))) ∧ Below wc.heap.size wc w') := ck_together wc x y m.cycles HWx.out HWy.out
      clear HC HR7 HR8 HB2 HX hx hy
      by_cases c1 : x.start < y.fin
      · by_cases c2 : y.start < x.fin
        · have HE : Hid (R = (List.range 8).any (Lq.both m.cycles x y)) := by show R = _; rw [HRe.out, Lq.meetW, Lq.cross, decide_eq_true c1, decide_eq_true c2]; rfl
          go_wp2_with fail
          refine HCt.out.mono ?_
          rintro e w9 ⟨rfl, hb⟩
          have HXd : Hid (Bx w w9 w.heap.size m a) := HXc.out.on hb
          rw [← HE.out]
          clear hb HXc x0 x1 x2 x3 x4 x5 z0 z1 z2 z3 z4 z5 y2
          go_wp2
          go_ret
          exact ⟨rfl, HXd.out.below⟩
        · have hR : R = false := by rw [HRe.out, Lq.meetW, Lq.cross, decide_eq_false c2]; simp
          have c2' : x.fin ≤ y.start := by omega
          go_wp2
          go_ret
          exact ⟨by first | rfl | (rw [hR]; rfl), HXc.out.below⟩
      · have hR : R = false := by rw [HRe.out, Lq.meetW, Lq.cross, decide_eq_false c1]; simp
        have c1' : y.fin ≤ x.start := by omega
        go_wp2
        go_ret
        exact ⟨by first | rfl | (rw [hR]; rfl), HXc.out.below⟩

end Go.Proofs.YtnbfnipdiffphaaDoor
