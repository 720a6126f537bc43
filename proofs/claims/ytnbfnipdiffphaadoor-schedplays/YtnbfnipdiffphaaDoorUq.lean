/- Package check, over the landed code: Units, Step, Meet, and what is asked of one thing. -/
import Derived.Test.YtnbfnipdiffphaaDoorBh
import Derived.Test.YtnbfnipdiffphaaDoorUp
import Derived.Test.YtnbfnipdiffphaaDoorLp
import Derived.Deep.RegionHeld3
import Derived.Deep.CutBlock
import Derived.WalkArith
import Derived.WalkSpells
import Derived.Test.YtnbfnipdiffphaaDoorBc
import Derived.WalkMore
namespace Go.Proofs.YtnbfnipdiffphaaDoor
open Go.RowKit Go.WideShapes
set_option linter.unusedVariables false

set_option maxRecDepth 100000 in
set_option maxHeartbeats 4000000 in
theorem ck_has (w : World) (c a : Int) (hc : (Lit.int .i64 c).wf = true) : Calls Tryd.prog 65 #[.int .i64 c, .int .i64 a] w fun e w' => e = .returned (.bool (Mx.within a 0 (c - 1))) ∧ w' = w := by
  unfold Mx.within
  by_cases h1 : 0 ≤ a
  · rw [decide_eq_true h1, Bool.true_and]
    by_cases h2 : a < c
    · rw [decide_eq_true (show a ≤ c - 1 by omega)]
      go_enter Tryd.func65, Tryd.ntmps65
      go_wp2
      go_ret
      exact ⟨rfl, rfl⟩
    · rw [decide_eq_false (show ¬ a ≤ c - 1 by omega)]
      have h3 : c ≤ a := by omega
      go_enter Tryd.func65, Tryd.ntmps65
      go_wp2
      go_ret
      exact ⟨rfl, rfl⟩
  · rw [decide_eq_false h1, Bool.false_and]
    go_enter Tryd.func65, Tryd.ntmps65
    go_wp2
    go_ret
    exact ⟨rfl, rfl⟩

set_option maxRecDepth 100000 in
set_option maxHeartbeats 4000000 in
theorem ck_tell (w : World) (b : Bool) (x : Int) : Calls Tryd.prog 64 #[.bool b, .int .i64 x] w fun e w' => e = .returned (.int .i64 (if b then x else 0)) ∧ w' = w := by
  cases b
  · go_enter Tryd.func64, Tryd.ntmps64
    go_wp2
    go_ret
    exact ⟨rfl, rfl⟩
  · go_enter Tryd.func64, Tryd.ntmps64
    go_wp2
    go_ret
    exact ⟨rfl, rfl⟩

set_option maxRecDepth 100000 in
set_option maxHeartbeats 4000000 in
theorem ck_noRule (w : World) (x : Value) : Calls Tryd.prog 68 #[x] w fun e w' => e = .returned (.int .i64 0) ∧ w' = w := by
  go_enter Tryd.func68, Tryd.ntmps68
  go_wp2
  go_ret
  exact ⟨rfl, rfl⟩

set_option maxRecDepth 100000 in
set_option maxHeartbeats 4000000 in
theorem ck_noPair (w : World) (x y : Value) : Calls Tryd.prog 66 #[x, y] w fun e w' => e = .returned (.int .i64 0) ∧ w' = w := by
  go_enter Tryd.func66, Tryd.ntmps66
  go_wp2
  go_ret
  exact ⟨rfl, rfl⟩

set_option maxRecDepth 100000 in
set_option maxHeartbeats 4000000 in
theorem ck_units (w : World) (m : Mx.M) (a : Ma) (bits : Int) (hm : MIn w m a) (hu : (Lit.int .i64 m.unit).wf = true) : Calls Tryd.prog 61 #[mV m a, .int .i64 bits] w fun e w' => e = .returned (.int .i64 (Lq.units m.unit bits)) ∧ Below w.heap.size w w' := by
  have HX : Hid (Bx w (w.alloc (.cells (mCs m a) 27)) w.heap.size m a) := Bx.mk' hm
  obtain ⟨_, _, _, _, _, x5, _⟩ := HX.out.row.mat
  have hub := bounds_i64 hu
  show Calls _ _ #[.agg (mCs m a), _] _ _
  generalize mCs m a = cs at HX x5 ⊢
  clear hm hu
  unfold Lq.units
  obtain ⟨U, hU⟩ : ∃ U : Nat, max m.unit 1 = (U : Int) := Int.eq_ofNat_of_zero_le (by omega)
  obtain ⟨b1, hb1⟩ : ∃ b1, max bits 0 = b1 := ⟨_, rfl⟩
  obtain ⟨B, hB⟩ : ∃ B : Nat, min b1 1000 = (B : Int) := Int.eq_ofNat_of_zero_le (by omega)
  have hU1 : 1 ≤ U := by omega
  have hUi : (U : Int) ≤ 9223372036854775807 := by omega
  have hB1 : (B : Int) ≤ 1000 := by omega
  rw [show max 1 m.unit = (U : Int) by omega, show max 0 (min bits 1000) = (B : Int) by omega]
  generalize m.unit = mu at *
  obtain ⟨q, hq⟩ : ∃ q : Nat, (4 * B) / U = q := ⟨_, rfl⟩
  obtain ⟨r, hr⟩ : ∃ r : Nat, (4 * B) % U = r := ⟨_, rfl⟩
  have e1 : ((B : Int) * 4).tdiv (U : Int) = (q : Int) := by rw [Int.mul_comm, Int.tdiv_eq_ediv_of_nonneg (by omega), ← hq]; simp
  have e2 : ((B : Int) * 4).tmod (U : Int) = (r : Int) := by rw [Int.mul_comm, Int.tmod_eq_emod_of_nonneg (by omega), ← hr]; simp
  have e3 : 4 * (B : Int) / (U : Int) = (q : Int) := by rw [← hq]; simp
  have e4 : 4 * (B : Int) % (U : Int) = (r : Int) := by rw [← hr]; simp
  have hq1 : (q : Int) ≤ 4000 := by
    have : q ≤ 4 * B := by rw [← hq]; exact Nat.div_le_self _ _
    omega
  have u0 : ¬ ((U : Int) = 0) := by omega
  have u1 : ¬ (U = 0) := by omega
  rw [e3, e4]
  clear hq hr hub hU1
  by_cases hr0 : r = 0
  · subst hr0
    go_enter Tryd.func61, Tryd.ntmps61
    go_wp2
    go_ret
    exact ⟨by simp, HX.out.below⟩
  · have r0 : ¬ ((r : Int) = 0) := by omega
    have r1 : (0 : Int) < (r : Int) := by omega
    have r2 : 0 < r := by omega
    go_enter Tryd.func61, Tryd.ntmps61
    go_wp2
    go_ret
    exact ⟨by first | rfl | simp, HX.out.below⟩

set_option maxRecDepth 100000 in
set_option maxHeartbeats 4000000 in
theorem ck_step (w : World) (hT : Tab w) (m : Mx.M) (a : Ma) (hm : MIn w m a) (hS : Mx.Small m) (hw : Mx.Wf m) : Calls Tryd.prog 42 #[mV m a] w fun e w' => e = .returned (.int .i64 (Lq.step m)) ∧ Below w.heap.size w w' := by
  have HX : Hid (Bx w (w.alloc (.cells (mCs m a) 27)) w.heap.size m a) := Bx.mk' hm
  obtain ⟨y0, y1, y2, y3, y4, y5, y6, y7, y8, y9, y10⟩ := HX.out.row.mat
  have HS : Hid (Mx.Small m) := hS
  have HU : Hid ((Lit.int .i64 m.unit).wf = true) := hw.unit
  obtain ⟨V, hV⟩ : ∃ V, Lq.step m = V := ⟨_, rfl⟩
  rw [hV]
  unfold Lq.step at hV
  have HTb : Hid (∀ w', Below w.heap.size w w' → Tab w') := fun w' hb => hT.below hb
  go_enter Tryd.func42, Tryd.ntmps42
  go_wp2_with fail
  refine (mk_is _ (HTb.out _ HX.out.below) m a HX.out.mem HS.out).mono ?_
  rintro e w1 ⟨rfl, hb⟩
  replace HX : Hid (Bx w w1 w.heap.size m a) := HX.out.on hb
  clear y0 y1 y2 y3 y4 y5 y6 y7 y8 y9 y10 hb hm
  cases hi : Mx.is m
  · rw [hi, if_neg (by simp)] at hV
    subst hV
    go_wp2
    go_ret
    exact ⟨rfl, HX.out.below⟩
  · rw [hi, if_pos rfl] at hV
    have hen : 1 ≤ m.enable ∧ m.enable ≤ 16 := by
      unfold Mx.is Mx.scal at hi
      simp only [Bool.and_eq_true, Pq.within_iff] at hi
      omega
    have hub := Lq.units_bound14 (u := m.unit) (b := 140)
    have HR : Hid (∀ w', Below w1.heap.size w1 w' → RowT 27 w' w.heap.size (mCs m a)) := fun w' hb => (HX.out.on hb).row
    have HC : Hid (∀ w', Below w1.heap.size w1 w' → Calls Tryd.prog 61 #[mV m a, .int .i64 140] w' fun e w'' => e = .returned (.int .i64 (Lq.units m.unit 140)) ∧ Below w'.heap.size w' w'') := fun w' hb => ck_units w' m a 140 (HX.out.on hb).mem HU.out
    have HB : Hid (Below w.heap.size w w1) := HX.out.below
    clear HX hi HTb hT
    generalize Lq.units m.unit 140 = V0 at *
    subst hV
    obtain ⟨h1, h2⟩ := hen
    obtain ⟨h3, h4⟩ := hub
    go_wp2_with fail
    refine Lw.wp_region_quiet_below (by kernel_rfl) (by kernel_rfl) ?_
    repeat (first
      | go_big_quiet_skip
      | (go_big_quiet_want; go_big_quiet_op; go_big_quiet_on)
      | (go_big_quiet_want; go_big_quiet_op; apply Exists.intro; refine ⟨fun _ hb' => ?_, ?_⟩; (first
        | exact Lw.val_rfl _
        | (go_at_call 61; exact Lw.calls_below hb' (HC.out _ hb'))
        | (simp [go_sem, (HR.out _ hb').mat.2.2.2.2.1]; rfl)
        | (simp [go_sem, (HR.out _ hb').mat.1, (HR.out _ hb').mat.2.1, (HR.out _ hb').mat.2.2.1, (HR.out _ hb').mat.2.2.2.1, (HR.out _ hb').mat.2.2.2.2.1, (HR.out _ hb').mat.2.2.2.2.2.1, (HR.out _ hb').mat.2.2.2.2.2.2.1, (HR.out _ hb').mat.2.2.2.2.2.2.2.1, (HR.out _ hb').mat.2.2.2.2.2.2.2.2.1, (HR.out _ hb').mat.2.2.2.2.2.2.2.2.2.1, (HR.out _ hb').mat.2.2.2.2.2.2.2.2.2.2]; rfl)); go_big_quiet_on))
    refine wpQuiet_nil ?_
    intro wz hbz
    have HBz : Hid (Below w.heap.size w wz) := HB.out.trans (hbz.mono HB.out.size)
    clear hbz
    go_wp2
    go_ret
    exact ⟨rfl, HBz.out⟩

set_option maxRecDepth 100000 in
set_option maxHeartbeats 4000000 in
theorem ck_together (w : World) (x y : Mx.Win) (cy : Int) (h1 : (Lit.int .i64 x.cycle).wf = true) (h2 : (Lit.int .i64 y.cycle).wf = true) : Calls Tryd.prog 82 #[.agg (mC3 x).toArray, .agg (mC3 y).toArray, .int .i64 cy] w fun e w' => e = .returned (.bool ((List.range 8).any (Lq.both cy x y))) ∧ Below w.heap.size w w' := by
  have hs : (w.alloc (.cells (mC3 x).toArray 58)).heap.size = w.heap.size + 1 := by simp
  have r1 : RowT 58 ((w.alloc (.cells (mC3 x).toArray 58)).alloc (.cells (mC3 y).toArray 58)) w.heap.size (mC3 x).toArray := (RowT.new _ w _).on ((Below.refl _ _).alloc (Nat.le_refl _) _)
  have r2 : RowT 58 ((w.alloc (.cells (mC3 x).toArray 58)).alloc (.cells (mC3 y).toArray 58)) (w.heap.size + 1) (mC3 y).toArray := by
    have := RowT.new 58 (w.alloc (.cells (mC3 x).toArray 58)) (mC3 y).toArray
    rwa [hs] at this
  have HB : Hid (Below w.heap.size w ((w.alloc (.cells (mC3 x).toArray 58)).alloc (.cells (mC3 y).toArray 58))) := ((Below.refl _ _).alloc (Nat.le_refl _) _).alloc (by simp) _
  have x3 := r1.c 3 (.int .i64 x.cycle) rfl
  have x4 := r1.c 4 (.int .i64 x.rep) rfl
  have y3 := r2.c 3 (.int .i64 y.cycle) rfl
  have y4 := r2.c 4 (.int .i64 y.rep) rfl
  have HWx : Hid ((Lit.int .i64 x.cycle).wf = true) := h1
  have HWy : Hid ((Lit.int .i64 y.cycle).wf = true) := h2
  clear hs r1 r2 h1 h2
  generalize (mC3 x).toArray = cx at *
  generalize (mC3 y).toArray = cv at *
  obtain ⟨n, hn⟩ : ∃ n, min cy 8 = n := ⟨_, rfl⟩
  have HN : Hid (min cy 8 = n) := hn
  have hn8 : n ≤ 8 := by omega
  obtain ⟨R, hR⟩ : ∃ R, (List.range 8).any (Lq.both cy x y) = R := ⟨_, rfl⟩
  have HE : Hid (R = (List.range 8).any (Lq.both cy x y)) := hR.symm
  rw [hR]
  clear hR
  go_enter Tryd.func82, Tryd.ntmps82
  go_wp2_with fail
  generalize (w.alloc (.cells cx 58)).alloc (.cells cv 58) = wc at *
  go_loopw [10, 7] (fun vi _ wr => ∃ k : Nat, k ≤ 8 ∧ vi = .int .i64 (k : Int) ∧ wr = wc ∧ Hid (∀ c, c < k → Lq.both cy x y c = false)) (fun vi _ _ => 8 - (intOf vi).toNat)
  case atStart => exact ⟨0, Nat.zero_le _, rfl, rfl, fun c hc => absurd hc (Nat.not_lt_zero _)⟩
  case round =>
    obtain ⟨k, hk, rfl, rfl, HF⟩ := hrel
    have HCm : Hid (∀ cy rp, (Lit.int .i64 cy).wf = true → Calls Tryd.prog 36 #[.int .i64 cy, .int .i64 rp, .int .i64 (k : Int)] wr fun e w' => e = .returned (.bool (Mx.comes cy rp (k : Int))) ∧ w' = wr) := fun cy rp h => mk_comes wr cy rp (k : Int) h (wfi (by omega))
    by_cases hc : (k : Int) < n
    · have hcy : (k : Int) < cy := by have := HN.out; omega
      clear hn
      cases hm1 : Mx.comes x.cycle x.rep (k : Int)
      · have HF2 : Hid (∀ c, c < k + 1 → Lq.both cy x y c = false) := Lq.upto_b HF.out (by unfold Lq.both; rw [hm1]; simp)
        go_wp2_with fail
        refine (HCm.out _ _ HWx.out).mono ?_
        rintro e w9 ⟨rfl, rfl⟩
        rw [hm1]
        go_wp2_with fail
        go_roundw
        case rel => exact ⟨k + 1, by omega, rfl, (by first | rfl | trivial), HF2⟩
        case measure => simp only [intOf]; omega
      · cases hm2 : Mx.comes y.cycle y.rep (k : Int)
        · have HF2 : Hid (∀ c, c < k + 1 → Lq.both cy x y c = false) := Lq.upto_b HF.out (by unfold Lq.both; rw [hm2]; simp)
          go_wp2_with fail
          refine (HCm.out _ _ HWx.out).mono ?_
          rintro e w9 ⟨rfl, rfl⟩
          rw [hm1]
          go_wp2_with fail
          refine (HCm.out _ _ HWy.out).mono ?_
          rintro e w9 ⟨rfl, rfl⟩
          rw [hm2]
          go_wp2_with fail
          go_roundw
          case rel => exact ⟨k + 1, by omega, rfl, (by first | rfl | trivial), HF2⟩
          case measure => simp only [intOf]; omega
        · have hR : R = true := by
            rw [HE.out, List.any_eq_true]
            exact ⟨k, List.mem_range.2 (by omega), by unfold Lq.both; rw [decide_eq_true hcy, hm1, hm2]; rfl⟩
          go_wp2_with fail
          refine (HCm.out _ _ HWx.out).mono ?_
          rintro e w9 ⟨rfl, rfl⟩
          rw [hm1]
          go_wp2_with fail
          refine (HCm.out _ _ HWy.out).mono ?_
          rintro e w9 ⟨rfl, rfl⟩
          rw [hm2]
          go_wp2
          go_ret
          exact ⟨by first | rfl | (rw [hR]; rfl), HB.out⟩
    · have hR : R = false := by
        rw [HE.out]
        exact Lq.any_none (fun c hc8 => by
          by_cases hck : c < k
          · exact HF.out c hck
          · unfold Lq.both; rw [decide_eq_false (by have := HN.out; omega)]; rfl)
      clear hn
      go_wp2
      go_ret
      exact ⟨by first | rfl | (rw [hR]; rfl), HB.out⟩

set_option maxRecDepth 100000 in
set_option maxHeartbeats 4000000 in
theorem ck_meet (w : World) (m : Mx.M) (a : Ma) (i0 j0 : Int) (hm : MIn w m a) (hS : Mx.Small m) (hwf : Mx.Wf m) : Calls Tryd.prog 76 #[mV m a, .int .i64 i0, .int .i64 j0] w fun e w' => e = .returned (.bool (Lq.meet m i0 j0)) ∧ Below w.heap.size w w' := by
  have HX : Hid (Bx w (w.alloc (.cells (mCs m a) 27)) w.heap.size m a) := Bx.mk' hm
  have hl := hS.c
  have hl1 : (m.windows.length : Int) ≤ 1000 := by omega
  have y10 := HX.out.row.mat.2.2.2.2.2.2.2.2.2.2
  have hW1 : ∀ (w1 : World) (n : Int), Calls Tryd.prog 65 #[.int .i64 (m.windows.length : Int), .int .i64 n] w1 fun e w' => e = .returned (.bool (Mx.within n 0 ((m.windows.length : Int) - 1))) ∧ w' = w1 := fun w1 n => ck_has w1 _ n (wfi (by omega))
  have HW1 : Hid (∀ (w1 : World) (n : Int), Calls Tryd.prog 65 #[.int .i64 (m.windows.length : Int), .int .i64 n] w1 fun e w' => e = .returned (.bool (Mx.within n 0 ((m.windows.length : Int) - 1))) ∧ w' = w1) := hW1
  show Calls _ _ #[.agg (mCs m a), _, _] _ _
  clear hm hS hl hW1
  obtain ⟨R, hR⟩ : ∃ R, Lq.meet m i0 j0 = R := ⟨_, rfl⟩
  rw [hR]
  generalize mCs m a = cs at HX y10 ⊢
  cases h1 : Mx.within i0 0 ((m.windows.length : Int) - 1)
  · have hR0 : R = false := by rw [← hR, Lq.meet, Lq.getW_none h1]
    subst hR0
    clear hR
    go_enter Tryd.func76, Tryd.ntmps76
    go_wp2_with fail
    refine (HW1.out _ _).mono ?_
    rintro e w9 ⟨rfl, rfl⟩
    rw [h1]
    go_wp2
    go_ret
    exact ⟨rfl, HX.out.below⟩
  cases h2 : Mx.within j0 0 ((m.windows.length : Int) - 1)
  · have hR0 : R = false := by rw [← hR, Lq.meet, Lq.getW_none h2]; cases Lq.getW m i0 <;> rfl
    subst hR0
    clear hR
    go_enter Tryd.func76, Tryd.ntmps76
    go_wp2_with fail
    refine (HW1.out _ _).mono ?_
    rintro e w9 ⟨rfl, rfl⟩
    rw [h1]
    go_wp2_with fail
    refine (HW1.out _ _).mono ?_
    rintro e w9 ⟨rfl, rfl⟩
    rw [h2]
    go_wp2
    go_ret
    exact ⟨rfl, HX.out.below⟩
  · obtain ⟨i, x, rfl, hi, hx, gx⟩ := Lq.getW_some h1
    obtain ⟨j, y, rfl, hj, hy, gy⟩ := Lq.getW_some h2
    have HRe : Hid (R = Lq.meetW m.cycles x y) := by show R = _; rw [← hR, Lq.meet, gx, gy]
    have HWx : Hid ((Lit.int .i64 x.cycle).wf = true) := (hwf.windows x (List.mem_of_getElem? hx)).2.2.2.1
    have HWy : Hid ((Lit.int .i64 y.cycle).wf = true) := (hwf.windows y (List.mem_of_getElem? hy)).2.2.2.1
    have hii : (i : Int) < (m.windows.length : Int) := by omega
    have hji : (j : Int) < (m.windows.length : Int) := by omega
    obtain ⟨gw, ow, hs, _⟩ := HX.out.mem.window hx
    clear hR gx gy hwf hi hj
    go_enter Tryd.func76, Tryd.ntmps76
    go_wp2_with fail
    refine (HW1.out _ _).mono ?_
    rintro e w9 ⟨rfl, rfl⟩
    rw [h1]
    go_wp2_with fail
    refine (HW1.out _ _).mono ?_
    rintro e w9 ⟨rfl, rfl⟩
    rw [h2]
    generalize w.alloc (.cells cs 27) = wB at HX y10 ⊢
    clear h1 h2 y10 HW1
    have HC : Hid (∀ w', Below wB.heap.size wB w' → w'.cell? ⟨w.heap.size, 10, none⟩ = some (.slice (some ⟨gw, ow, none⟩) m.windows.length a.c3) ∧ (w'.cell? ⟨gw, ow + i * 6, none⟩ = some (.int .i64 x.kind) ∧ w'.cell? ⟨gw, ow + i * 6 + 1, none⟩ = some (.int .i64 x.start) ∧ w'.cell? ⟨gw, ow + i * 6 + 2, none⟩ = some (.int .i64 x.fin) ∧ w'.cell? ⟨gw, ow + i * 6 + 3, none⟩ = some (.int .i64 x.cycle) ∧ w'.cell? ⟨gw, ow + i * 6 + 4, none⟩ = some (.int .i64 x.rep) ∧ w'.cell? ⟨gw, ow + i * 6 + 5, none⟩ = some (.int .i64 x.msg)) ∧ (w'.cell? ⟨gw, ow + j * 6, none⟩ = some (.int .i64 y.kind) ∧ w'.cell? ⟨gw, ow + j * 6 + 1, none⟩ = some (.int .i64 y.start) ∧ w'.cell? ⟨gw, ow + j * 6 + 2, none⟩ = some (.int .i64 y.fin) ∧ w'.cell? ⟨gw, ow + j * 6 + 3, none⟩ = some (.int .i64 y.cycle) ∧ w'.cell? ⟨gw, ow + j * 6 + 4, none⟩ = some (.int .i64 y.rep) ∧ w'.cell? ⟨gw, ow + j * 6 + 5, none⟩ = some (.int .i64 y.msg))) := fun w' hb => by
      have h10 := (HX.out.on hb).row.mat.2.2.2.2.2.2.2.2.2.2
      obtain ⟨g1, o1, e1, _, q⟩ := (HX.out.on hb).mem.window hx
      obtain ⟨g2, o2, e2, _, q2⟩ := (HX.out.on hb).mem.window hy
      rw [hs] at e1 e2 h10
      injection e1 with e1
      injection e1 with e1 e1o
      injection e2 with e2
      injection e2 with e2 e2o
      subst e1 e1o e2 e2o
      exact ⟨h10, q, q2⟩
    clear hs
    go_wp2_with fail
    go_cut [7, 8] from 23 (fun v7 v8 wx => ∃ q7 q8, v7 = Ob.ptr q7 ∧ v8 = Ob.ptr q8 ∧ Hid (RowT 58 wx q7 (mC3 x).toArray) ∧ Hid (RowT 58 wx q8 (mC3 y).toArray) ∧ Hid (Below wB.heap.size wB wx))
    case first =>
      refine wp_region_held_drew (S := fun w' => Below wB.heap.size wB w') (by kernel_rfl) (Below.refl _ _).drew (fun hHeld => ?_)
      refine Hl.takeL (i := 0) (d := 23) (v := ?_) rfl (by kernel_rfl) (by kernel_rfl) (by kernel_rfl) (fun _ _ _ h => h) (by rfl) ?_ (by first | assumption | trivial) ?_
      rotate_left
      · intro w hSw; obtain ⟨z10, ⟨x0, x1, x2, x3, x4, x5⟩, ⟨y0, y1, y2, y3, y4, y5⟩⟩ := HC.out _ hSw; go_simp; (try with_reducible rfl)
      simp only [Act.put, List.setIfInBounds_toArray, List.set_cons_zero, List.set_cons_succ]
      refine Hl.takeL (i := 1) (d := 24) (v := ?_) rfl (by kernel_rfl) (by kernel_rfl) (by kernel_rfl) (fun _ _ _ h => h) (by rfl) ?_ (by first | assumption | trivial) ?_
      rotate_left
      · intro w hSw; obtain ⟨z10, ⟨x0, x1, x2, x3, x4, x5⟩, ⟨y0, y1, y2, y3, y4, y5⟩⟩ := HC.out _ hSw; go_simp; (try with_reducible rfl)
      simp only [Act.put, List.setIfInBounds_toArray, List.set_cons_zero, List.set_cons_succ]
      refine Hl.takeL (i := 2) (d := 25) (v := ?_) rfl (by kernel_rfl) (by kernel_rfl) (by kernel_rfl) (fun _ _ _ h => h) (by rfl) ?_ (by first | assumption | trivial) ?_
      rotate_left
      · intro w hSw; obtain ⟨z10, ⟨x0, x1, x2, x3, x4, x5⟩, ⟨y0, y1, y2, y3, y4, y5⟩⟩ := HC.out _ hSw; go_simp; (try with_reducible rfl)
      simp only [Act.put, List.setIfInBounds_toArray, List.set_cons_zero, List.set_cons_succ]
      refine Hl.takeL (i := 3) (d := 26) (v := ?_) rfl (by kernel_rfl) (by kernel_rfl) (by kernel_rfl) (fun _ _ _ h => h) (by rfl) ?_ (by first | assumption | trivial) ?_
      rotate_left
      · intro w hSw; obtain ⟨z10, ⟨x0, x1, x2, x3, x4, x5⟩, ⟨y0, y1, y2, y3, y4, y5⟩⟩ := HC.out _ hSw; go_simp; (try with_reducible rfl)
      simp only [Act.put, List.setIfInBounds_toArray, List.set_cons_zero, List.set_cons_succ]
      refine Hl.takeL (i := 4) (d := 27) (v := ?_) rfl (by kernel_rfl) (by kernel_rfl) (by kernel_rfl) (fun _ _ _ h => h) (by rfl) ?_ (by first | assumption | trivial) ?_
      rotate_left
      · intro w hSw; obtain ⟨z10, ⟨x0, x1, x2, x3, x4, x5⟩, ⟨y0, y1, y2, y3, y4, y5⟩⟩ := HC.out _ hSw; go_simp; (try with_reducible rfl)
      simp only [Act.put, List.setIfInBounds_toArray, List.set_cons_zero, List.set_cons_succ]
      refine Hl.takeL (i := 5) (d := 28) (v := ?_) rfl (by kernel_rfl) (by kernel_rfl) (by kernel_rfl) (fun _ _ _ h => h) (by rfl) ?_ (by first | assumption | trivial) ?_
      rotate_left
      · intro w hSw; obtain ⟨z10, ⟨x0, x1, x2, x3, x4, x5⟩, ⟨y0, y1, y2, y3, y4, y5⟩⟩ := HC.out _ hSw; go_simp; (try with_reducible rfl)
      simp only [Act.put, List.setIfInBounds_toArray, List.set_cons_zero, List.set_cons_succ]
      refine Hl.takeL (i := 6) (d := 29) (v := ?_) rfl (by kernel_rfl) (by kernel_rfl) (by kernel_rfl) (fun _ _ _ h => h) (by rfl) ?_ (by first | assumption | trivial) ?_
      rotate_left
      · intro w hSw; obtain ⟨z10, ⟨x0, x1, x2, x3, x4, x5⟩, ⟨y0, y1, y2, y3, y4, y5⟩⟩ := HC.out _ hSw; go_simp; (try with_reducible rfl)
      simp only [Act.put, List.setIfInBounds_toArray, List.set_cons_zero, List.set_cons_succ]
      refine Hl.takeL (i := 7) (d := 30) (v := ?_) rfl (by kernel_rfl) (by kernel_rfl) (by kernel_rfl) (fun _ _ _ h => h) (by rfl) ?_ (by first | assumption | trivial) ?_
      rotate_left
      · intro w hSw; obtain ⟨z10, ⟨x0, x1, x2, x3, x4, x5⟩, ⟨y0, y1, y2, y3, y4, y5⟩⟩ := HC.out _ hSw; go_simp; (try with_reducible rfl)
      simp only [Act.put, List.setIfInBounds_toArray, List.set_cons_zero, List.set_cons_succ]
      refine Hl.takeL (i := 8) (d := 31) (v := ?_) rfl (by kernel_rfl) (by kernel_rfl) (by kernel_rfl) (fun _ _ _ h => h) (by rfl) ?_ (by first | assumption | trivial) ?_
      rotate_left
      · intro w hSw; obtain ⟨z10, ⟨x0, x1, x2, x3, x4, x5⟩, ⟨y0, y1, y2, y3, y4, y5⟩⟩ := HC.out _ hSw; go_simp; (try with_reducible rfl)
      simp only [Act.put, List.setIfInBounds_toArray, List.set_cons_zero, List.set_cons_succ]
      refine Hl.takeL (i := 9) (d := 32) (v := ?_) rfl (by kernel_rfl) (by kernel_rfl) (by kernel_rfl) (fun _ _ _ h => h) (by rfl) ?_ (by first | assumption | trivial) ?_
      rotate_left
      · intro w hSw; obtain ⟨z10, ⟨x0, x1, x2, x3, x4, x5⟩, ⟨y0, y1, y2, y3, y4, y5⟩⟩ := HC.out _ hSw; go_simp; (try with_reducible rfl)
      simp only [Act.put, List.setIfInBounds_toArray, List.set_cons_zero, List.set_cons_succ]
      refine Hl.consL2 (i := 10) (j := 11) rfl rfl (by kernel_rfl) (fun K' hK' => ?_) (fun K' hK' => ?_)
      · go_simp
        refine hK'.out _ _ (hHeld.alloc (Nat.le_refl _) _) (fun hHeld => ?_)
        clear hK' K'
        refine Hl.consL (i := 11) rfl (by kernel_rfl) (fun K' hK' => ?_)
        go_simp
        have hb2 : Below wB.heap.size wB ((wB.alloc (.cells #[.int .i64 0, .int .i64 0, .int .i64 0, .int .i64 0, .int .i64 0, .int .i64 0] 58)).alloc (.cells #[.int .i64 0, .int .i64 0, .int .i64 0, .int .i64 0, .int .i64 0, .int .i64 0] 58)).drew := hHeld.alloc (by simp) _
        have r1 : RowT 58 ((wB.alloc (.cells #[.int .i64 0, .int .i64 0, .int .i64 0, .int .i64 0, .int .i64 0, .int .i64 0] 58)).alloc (.cells #[.int .i64 0, .int .i64 0, .int .i64 0, .int .i64 0, .int .i64 0, .int .i64 0] 58)).drew wB.heap.size #[.int .i64 0, .int .i64 0, .int .i64 0, .int .i64 0, .int .i64 0, .int .i64 0] := (RowT.new _ wB _).on (((Below.refl _ _).alloc (Nat.le_refl _) _).drew)
        have r2 : RowT 58 ((wB.alloc (.cells #[.int .i64 0, .int .i64 0, .int .i64 0, .int .i64 0, .int .i64 0, .int .i64 0] 58)).alloc (.cells #[.int .i64 0, .int .i64 0, .int .i64 0, .int .i64 0, .int .i64 0, .int .i64 0] 58)).drew (wB.heap.size + 1) #[.int .i64 0, .int .i64 0, .int .i64 0, .int .i64 0, .int .i64 0, .int .i64 0] := by
          have := RowT.new 58 (wB.alloc (.cells #[.int .i64 0, .int .i64 0, .int .i64 0, .int .i64 0, .int .i64 0, .int .i64 0] 58)) #[.int .i64 0, .int .i64 0, .int .i64 0, .int .i64 0, .int .i64 0, .int .i64 0]
          rwa [show (wB.alloc (.cells #[.int .i64 0, .int .i64 0, .int .i64 0, .int .i64 0, .int .i64 0, .int .i64 0] 58)).heap.size = wB.heap.size + 1 by simp] at this
        refine hK'.out _ _ hb2 (fun hHeld2 => ?_)
        clear hK' K' hHeld2 hHeld
        generalize ((wB.alloc (.cells #[.int .i64 0, .int .i64 0, .int .i64 0, .int .i64 0, .int .i64 0, .int .i64 0] 58)).alloc (.cells #[.int .i64 0, .int .i64 0, .int .i64 0, .int .i64 0, .int .i64 0, .int .i64 0] 58)).drew = wA at hb2 r1 r2 ⊢
        refine Hl.consL (i := 12) rfl (by kernel_rfl) (fun K' hK' => ?_)
        refine Hl.step_store_row rfl 58 (.tmp 7) (.tmp 27) rfl wB.heap.size (mC3 x).toArray rfl rfl 58 _ r1 winfo14 rfl (mc3_one x) ?_
        have s1 : RowT 58 (wA.setRow wB.heap.size (mC3 x).toArray) wB.heap.size (mC3 x).toArray := setRow_heap _ _ _ _ _ _ r1
        have s2 : RowT 58 (wA.setRow wB.heap.size (mC3 x).toArray) (wB.heap.size + 1) #[.int .i64 0, .int .i64 0, .int .i64 0, .int .i64 0, .int .i64 0, .int .i64 0] := (setRow_other _ _ _ _ (by omega)).trans r2
        have hb3 : Below wB.heap.size wB (wA.setRow wB.heap.size (mC3 x).toArray) := below_setRow hb2 (by omega) _
        refine hK'.out _ _ hb3 (fun hHeld2 => ?_)
        clear hK' K' hHeld2 r1 r2 hb2
        generalize wA.setRow wB.heap.size (mC3 x).toArray = wA2 at s1 s2 hb3 ⊢
        refine Hl.consL (i := 13) rfl (by kernel_rfl) (fun K' hK' => ?_)
        refine Hl.step_store_row rfl 58 (.tmp 8) (.tmp 32) rfl (wB.heap.size + 1) (mC3 y).toArray rfl rfl 58 _ s2 winfo14 rfl (mc3_one y) ?_
        have t1 : RowT 58 (wA2.setRow (wB.heap.size + 1) (mC3 y).toArray) wB.heap.size (mC3 x).toArray := (setRow_other _ _ _ _ (by omega)).trans s1
        have t2 : RowT 58 (wA2.setRow (wB.heap.size + 1) (mC3 y).toArray) (wB.heap.size + 1) (mC3 y).toArray := setRow_heap _ _ _ _ _ _ s2
        have hb4 : Below wB.heap.size wB (wA2.setRow (wB.heap.size + 1) (mC3 y).toArray) := below_setRow hb3 (by omega) _
        refine hK'.out _ _ hb4 (fun hHeld2 => ?_)
        clear hK' K' hHeld2 s1 s2 hb3
        refine wpAnyH_done (by kernel_rfl) ?_ _
        go_wp2_with fail
        go_meet
        case rel => exact ⟨_, _, rfl, rfl, t1, t2, hb4⟩
      · go_simp
        refine hK'.out _ _ (hHeld.alloc (Nat.le_refl _) _) (fun hHeld => ?_)
        clear hK' K'
        refine Hl.consL (i := 10) rfl (by kernel_rfl) (fun K' hK' => ?_)
        go_simp
        have hb2 : Below wB.heap.size wB ((wB.alloc (.cells #[.int .i64 0, .int .i64 0, .int .i64 0, .int .i64 0, .int .i64 0, .int .i64 0] 58)).alloc (.cells #[.int .i64 0, .int .i64 0, .int .i64 0, .int .i64 0, .int .i64 0, .int .i64 0] 58)).drew := hHeld.alloc (by simp) _
        have r1 : RowT 58 ((wB.alloc (.cells #[.int .i64 0, .int .i64 0, .int .i64 0, .int .i64 0, .int .i64 0, .int .i64 0] 58)).alloc (.cells #[.int .i64 0, .int .i64 0, .int .i64 0, .int .i64 0, .int .i64 0, .int .i64 0] 58)).drew wB.heap.size #[.int .i64 0, .int .i64 0, .int .i64 0, .int .i64 0, .int .i64 0, .int .i64 0] := (RowT.new _ wB _).on (((Below.refl _ _).alloc (Nat.le_refl _) _).drew)
        have r2 : RowT 58 ((wB.alloc (.cells #[.int .i64 0, .int .i64 0, .int .i64 0, .int .i64 0, .int .i64 0, .int .i64 0] 58)).alloc (.cells #[.int .i64 0, .int .i64 0, .int .i64 0, .int .i64 0, .int .i64 0, .int .i64 0] 58)).drew (wB.heap.size + 1) #[.int .i64 0, .int .i64 0, .int .i64 0, .int .i64 0, .int .i64 0, .int .i64 0] := by
          have := RowT.new 58 (wB.alloc (.cells #[.int .i64 0, .int .i64 0, .int .i64 0, .int .i64 0, .int .i64 0, .int .i64 0] 58)) #[.int .i64 0, .int .i64 0, .int .i64 0, .int .i64 0, .int .i64 0, .int .i64 0]
          rwa [show (wB.alloc (.cells #[.int .i64 0, .int .i64 0, .int .i64 0, .int .i64 0, .int .i64 0, .int .i64 0] 58)).heap.size = wB.heap.size + 1 by simp] at this
        refine hK'.out _ _ hb2 (fun hHeld2 => ?_)
        clear hK' K' hHeld2 hHeld
        generalize ((wB.alloc (.cells #[.int .i64 0, .int .i64 0, .int .i64 0, .int .i64 0, .int .i64 0, .int .i64 0] 58)).alloc (.cells #[.int .i64 0, .int .i64 0, .int .i64 0, .int .i64 0, .int .i64 0, .int .i64 0] 58)).drew = wA at hb2 r1 r2 ⊢
        refine Hl.consL (i := 12) rfl (by kernel_rfl) (fun K' hK' => ?_)
        refine Hl.step_store_row rfl 58 (.tmp 7) (.tmp 27) rfl (wB.heap.size + 1) (mC3 x).toArray rfl rfl 58 _ r2 winfo14 rfl (mc3_one x) ?_
        have s1 : RowT 58 (wA.setRow (wB.heap.size + 1) (mC3 x).toArray) (wB.heap.size + 1) (mC3 x).toArray := setRow_heap _ _ _ _ _ _ r2
        have s2 : RowT 58 (wA.setRow (wB.heap.size + 1) (mC3 x).toArray) wB.heap.size #[.int .i64 0, .int .i64 0, .int .i64 0, .int .i64 0, .int .i64 0, .int .i64 0] := (setRow_other _ _ _ _ (by omega)).trans r1
        have hb3 : Below wB.heap.size wB (wA.setRow (wB.heap.size + 1) (mC3 x).toArray) := below_setRow hb2 (by omega) _
        refine hK'.out _ _ hb3 (fun hHeld2 => ?_)
        clear hK' K' hHeld2 r1 r2 hb2
        generalize wA.setRow (wB.heap.size + 1) (mC3 x).toArray = wA2 at s1 s2 hb3 ⊢
        refine Hl.consL (i := 13) rfl (by kernel_rfl) (fun K' hK' => ?_)
        refine Hl.step_store_row rfl 58 (.tmp 8) (.tmp 32) rfl wB.heap.size (mC3 y).toArray rfl rfl 58 _ s2 winfo14 rfl (mc3_one y) ?_
        have t1 : RowT 58 (wA2.setRow wB.heap.size (mC3 y).toArray) (wB.heap.size + 1) (mC3 x).toArray := (setRow_other _ _ _ _ (by omega)).trans s1
        have t2 : RowT 58 (wA2.setRow wB.heap.size (mC3 y).toArray) wB.heap.size (mC3 y).toArray := setRow_heap _ _ _ _ _ _ s2
        have hb4 : Below wB.heap.size wB (wA2.setRow wB.heap.size (mC3 y).toArray) := below_setRow hb3 (by omega) _
        refine hK'.out _ _ hb4 (fun hHeld2 => ?_)
        clear hK' K' hHeld2 s1 s2 hb3
        refine wpAnyH_done (by kernel_rfl) ?_ _
        go_wp2_with fail
        go_meet
        case rel => exact ⟨_, _, rfl, rfl, t1, t2, hb4⟩
    case rest =>
      obtain ⟨q7, q8, rfl, rfl, HR7, HR8, HB2⟩ := hcut
      have x0 : wc.cell? ⟨q7, 0, none⟩ = some (.int .i64 x.kind) := HR7.out.c 0 _ rfl
      have x1 : wc.cell? ⟨q7, 1, none⟩ = some (.int .i64 x.start) := HR7.out.c 1 _ rfl
      have x2 : wc.cell? ⟨q7, 2, none⟩ = some (.int .i64 x.fin) := HR7.out.c 2 _ rfl
      have x3 : wc.cell? ⟨q7, 3, none⟩ = some (.int .i64 x.cycle) := HR7.out.c 3 _ rfl
      have x4 : wc.cell? ⟨q7, 4, none⟩ = some (.int .i64 x.rep) := HR7.out.c 4 _ rfl
      have x5 : wc.cell? ⟨q7, 5, none⟩ = some (.int .i64 x.msg) := HR7.out.c 5 _ rfl
      have z0 : wc.cell? ⟨q8, 0, none⟩ = some (.int .i64 y.kind) := HR8.out.c 0 _ rfl
      have z1 : wc.cell? ⟨q8, 1, none⟩ = some (.int .i64 y.start) := HR8.out.c 1 _ rfl
      have z2 : wc.cell? ⟨q8, 2, none⟩ = some (.int .i64 y.fin) := HR8.out.c 2 _ rfl
      have z3 : wc.cell? ⟨q8, 3, none⟩ = some (.int .i64 y.cycle) := HR8.out.c 3 _ rfl
      have z4 : wc.cell? ⟨q8, 4, none⟩ = some (.int .i64 y.rep) := HR8.out.c 4 _ rfl
      have z5 : wc.cell? ⟨q8, 5, none⟩ = some (.int .i64 y.msg) := HR8.out.c 5 _ rfl
      have HXc : Hid (Bx w wc w.heap.size m a) := HX.out.on HB2.out
      have y2 := HXc.out.row.mat.2.2.1
      have HCt : Hid (Calls Tryd.prog 82 #[.agg (mC3 x).toArray, .agg (mC3 y).toArray, .int .i64 m.cycles] wc fun e w' => e = .returned (.bool ((List.range 8).any (Lq.both m.cycles x y))) ∧ Below wc.heap.size wc w') := ck_together wc x y m.cycles HWx.out HWy.out
      clear HC HR7 HR8 HB2 HX hx hy
      by_cases c1 : x.start < y.fin
      · by_cases c2 : y.start < x.fin
        · have HE : Hid (R = (List.range 8).any (Lq.both m.cycles x y)) := by show R = _; rw [HRe.out, Lq.meetW, Lq.cross, decide_eq_true c1, decide_eq_true c2]; rfl
          go_wp2_with fail
          refine HCt.out.mono ?_
          rintro e w9 ⟨rfl, hb⟩
          have HXd : Hid (Bx w w9 w.heap.size m a) := HXc.out.on hb
          rw [← HE.out]
          clear hb HXc x0 x1 x2 x3 x4 x5 z0 z1 z2 z3 z4 z5 y2
          go_wp2
          go_ret
          exact ⟨rfl, HXd.out.below⟩
        · have hR : R = false := by rw [HRe.out, Lq.meetW, Lq.cross, decide_eq_false c2]; simp
          have c2' : x.fin ≤ y.start := by omega
          go_wp2
          go_ret
          exact ⟨by first | rfl | (rw [hR]; rfl), HXc.out.below⟩
      · have hR : R = false := by rw [HRe.out, Lq.meetW, Lq.cross, decide_eq_false c1]; simp
        have c1' : y.fin ≤ x.start := by omega
        go_wp2
        go_ret
        exact ⟨by first | rfl | (rw [hR]; rfl), HXc.out.below⟩

end Go.Proofs.YtnbfnipdiffphaaDoor
/- Package check, over the landed code: the rules, each asked of one place or of two. -/
namespace Go.Proofs.YtnbfnipdiffphaaDoor
open Go.RowKit Go.WideShapes
set_option linter.unusedVariables false
theorem ck_hasB (w : World) (c a : Int) (b : Bool) (hc : (Lit.int .i64 c).wf = true) (hb : Mx.within a 0 (c - 1) = b) : Calls Tryd.prog 65 #[.int .i64 c, .int .i64 a] w fun e w' => e = .returned (.bool b) ∧ Below w.heap.size w w' := (ck_has w c a hc).mono fun e w' ⟨h1, h2⟩ => by rw [h1, hb, h2]; exact ⟨rfl, Below.refl _ _⟩
theorem ck_tellS (w : World) (b : Bool) (x r : Int) (hr : (if b then x else 0) = r) : Calls Tryd.prog 64 #[.bool b, .int .i64 x] w fun e w' => e = .returned (.int .i64 r) ∧ w' = w := (ck_tell w b x).mono fun e w' ⟨h1, h2⟩ => by rw [h1, hr, h2]; exact ⟨rfl, rfl⟩
theorem ck_tellB (w : World) (b : Bool) (x r : Int) (hr : (if b then x else 0) = r) : Calls Tryd.prog 64 #[.bool b, .int .i64 x] w fun e w' => e = .returned (.int .i64 r) ∧ Below w.heap.size w w' := (ck_tell w b x).mono fun e w' ⟨h1, h2⟩ => by rw [h1, hr, h2]; exact ⟨rfl, Below.refl _ _⟩

set_option maxRecDepth 100000 in
set_option maxHeartbeats 4000000 in
theorem ck_eMaster (W w : World) (p : Nat) (m : Mx.M) (a : Ma) (k : Nat) (hX : Bx W w p m a) (hi : Mx.is m = true) (hk : k < m.masters.length) : Calls Tryd.prog 63 #[.int .i64 (k : Int), Ob.ptr p] w fun e w' => e = .returned (.int .i64 (Lq.eMaster m k)) ∧ Below w.heap.size w w' := by
  obtain ⟨x, hx⟩ : ∃ x, m.masters[k]? = some x := ⟨_, List.getElem?_eq_getElem hk⟩
  have HX : Hid (Bx W w p m a) := hX
  have n := Pq.num_of hi
  have h0 : 0 ≤ x := (n.masters x (List.mem_of_getElem? hx)).1
  have hn := n.nodes
  have hl : (m.masters.length : Int) ≤ 1000 := by have := n.l1; omega
  have hki : (k : Int) < (m.masters.length : Int) := by omega
  have he : Lq.eMaster m k = if m.nodes ≤ x then 141 else 0 := by unfold Lq.eMaster; rw [hx]
  obtain ⟨g, o, hs, _, hc⟩ := HX.out.mem.master hx
  have HA : Hid (∀ w', Below w.heap.size w w' → w'.cell? ⟨p, 1, none⟩ = some (.int .i64 m.nodes) ∧ w'.cell? ⟨p, 8, none⟩ = some (.slice (some ⟨g, o, none⟩) m.masters.length a.c1) ∧ w'.cell? ⟨g, o + k, none⟩ = some (.int .i64 x)) := fun w' hb => by
    have h1 := (HX.out.on hb).row.mat.2.1
    have h8 := (HX.out.on hb).row.mat.2.2.2.2.2.2.2.2.1
    obtain ⟨g1, o1, e1, _, q⟩ := (HX.out.on hb).mem.master hx
    rw [hs] at e1 h8
    injection e1 with e1
    injection e1 with e1 e2
    subst e1 e2
    exact ⟨h1, h8, q⟩
  have HN : Hid ((Lit.int .i64 m.nodes).wf = true) := wfi (by omega)
  rw [he]
  clear hX hi n hn hk hx he
  generalize m.masters.length = L at *
  by_cases hc : m.nodes ≤ x
  · rw [if_pos hc]
    have HC : Hid (∀ w1, Calls Tryd.prog 65 #[.int .i64 m.nodes, .int .i64 x] w1 fun e w' => e = .returned (.bool false) ∧ Below w1.heap.size w1 w') := fun w1 => ck_hasB w1 _ _ _ HN.out (by unfold Mx.within; rw [decide_eq_false (show ¬ x ≤ m.nodes - 1 by omega), Bool.and_false])
    have HD : Hid (∀ w1, Calls Tryd.prog 64 #[.bool true, .int .i64 141] w1 fun e w' => e = .returned (.int .i64 141) ∧ Below w1.heap.size w1 w') := fun w1 => ck_tellB w1 _ _ _ rfl
    clear hc h0 hs
    go_enter Tryd.func63, Tryd.ntmps63
    go_wp2_with fail
    refine Lw.wp_region_quiet_below (by kernel_rfl) (by kernel_rfl) ?_
    repeat (first
      | go_big_quiet_skip
      | (go_big_quiet_want; go_big_quiet_op; go_big_quiet_on)
      | (go_big_quiet_want; go_big_quiet_op; apply Exists.intro; refine ⟨fun _ hb' => ?_, ?_⟩; (first
        | exact Lw.val_rfl _
        | (go_at_call 65; exact Lw.calls_below hb' (HC.out _))
        | (go_at_call 64; exact Lw.calls_below hb' (HD.out _))
        | (simp [go_sem, (HA.out _ hb').1]; rfl)
        | (simp [go_sem, (HA.out _ hb').2.1]; rfl)
        | (simp [go_sem, (HA.out _ hb').2.2]; rfl)); go_big_quiet_on))
    refine wpQuiet_nil ?_
    intro wz hbz
    have HBz : Hid (Below w.heap.size w wz) := hbz
    clear hbz
    go_wp2
    go_ret
    exact ⟨rfl, HBz.out⟩
  · rw [if_neg hc]
    have HC : Hid (∀ w1, Calls Tryd.prog 65 #[.int .i64 m.nodes, .int .i64 x] w1 fun e w' => e = .returned (.bool true) ∧ Below w1.heap.size w1 w') := fun w1 => ck_hasB w1 _ _ _ HN.out (by unfold Mx.within; rw [decide_eq_true h0, decide_eq_true (show x ≤ m.nodes - 1 by omega)]; rfl)
    have HD : Hid (∀ w1, Calls Tryd.prog 64 #[.bool false, .int .i64 141] w1 fun e w' => e = .returned (.int .i64 0) ∧ Below w1.heap.size w1 w') := fun w1 => ck_tellB w1 _ _ _ rfl
    clear hc h0 hs
    go_enter Tryd.func63, Tryd.ntmps63
    go_wp2_with fail
    refine Lw.wp_region_quiet_below (by kernel_rfl) (by kernel_rfl) ?_
    repeat (first
      | go_big_quiet_skip
      | (go_big_quiet_want; go_big_quiet_op; go_big_quiet_on)
      | (go_big_quiet_want; go_big_quiet_op; apply Exists.intro; refine ⟨fun _ hb' => ?_, ?_⟩; (first
        | exact Lw.val_rfl _
        | (go_at_call 65; exact Lw.calls_below hb' (HC.out _))
        | (go_at_call 64; exact Lw.calls_below hb' (HD.out _))
        | (simp [go_sem, (HA.out _ hb').1]; rfl)
        | (simp [go_sem, (HA.out _ hb').2.1]; rfl)
        | (simp [go_sem, (HA.out _ hb').2.2]; rfl)); go_big_quiet_on))
    refine wpQuiet_nil ?_
    intro wz hbz
    have HBz : Hid (Below w.heap.size w wz) := hbz
    clear hbz
    go_wp2
    go_ret
    exact ⟨rfl, HBz.out⟩

set_option maxRecDepth 100000 in
set_option maxHeartbeats 4000000 in
theorem ck_eOwner (W w : World) (p : Nat) (m : Mx.M) (a : Ma) (k : Nat) (hX : Bx W w p m a) (hi : Mx.is m = true) (hk : k < m.messages.length) : Calls Tryd.prog 67 #[.int .i64 (k : Int), Ob.ptr p] w fun e w' => e = .returned (.int .i64 (Lq.eOwner m k)) ∧ Below w.heap.size w w' := by
  obtain ⟨x, hx⟩ : ∃ x, m.messages[k]? = some x := ⟨_, List.getElem?_eq_getElem hk⟩
  have HX : Hid (Bx W w p m a) := hX
  have n := Pq.num_of hi
  have h0 : 0 ≤ x.owner := (n.messages x (List.mem_of_getElem? hx)).2.1
  have hn := n.nodes
  have hl : (m.messages.length : Int) ≤ 1000 := by have := n.l2; omega
  have hki : (k : Int) < (m.messages.length : Int) := by omega
  have he : Lq.eOwner m k = if m.nodes ≤ x.owner then 141 else 0 := by unfold Lq.eOwner; rw [hx]
  obtain ⟨g, o, hs, _, _⟩ := HX.out.mem.message hx
  have HA : Hid (∀ w', Below w.heap.size w w' → w'.cell? ⟨p, 1, none⟩ = some (.int .i64 m.nodes) ∧ w'.cell? ⟨p, 9, none⟩ = some (.slice (some ⟨g, o, none⟩) m.messages.length a.c2) ∧ w'.cell? ⟨g, o + k * 3 + 1, none⟩ = some (.int .i64 x.owner)) := fun w' hb => by
    have h1 := (HX.out.on hb).row.mat.2.1
    have h8 := (HX.out.on hb).row.mat.2.2.2.2.2.2.2.2.2.1
    obtain ⟨g1, o1, e1, _, _, q, _⟩ := (HX.out.on hb).mem.message hx
    rw [hs] at e1 h8
    injection e1 with e1
    injection e1 with e1 e2
    subst e1 e2
    exact ⟨h1, h8, q⟩
  have HN : Hid ((Lit.int .i64 m.nodes).wf = true) := wfi (by omega)
  rw [he]
  clear hX hi n hn hk hx he
  generalize m.messages.length = L at *
  by_cases hc : m.nodes ≤ x.owner
  · rw [if_pos hc]
    have HC : Hid (∀ w1, Calls Tryd.prog 65 #[.int .i64 m.nodes, .int .i64 x.owner] w1 fun e w' => e = .returned (.bool false) ∧ Below w1.heap.size w1 w') := fun w1 => ck_hasB w1 _ _ _ HN.out (by unfold Mx.within; rw [decide_eq_false (show ¬ x.owner ≤ m.nodes - 1 by omega), Bool.and_false])
    have HD : Hid (∀ w1, Calls Tryd.prog 64 #[.bool true, .int .i64 141] w1 fun e w' => e = .returned (.int .i64 141) ∧ Below w1.heap.size w1 w') := fun w1 => ck_tellB w1 _ _ _ rfl
    clear hc h0 hs
    go_enter Tryd.func67, Tryd.ntmps67
    go_wp2_with fail
    refine Lw.wp_region_quiet_below (by kernel_rfl) (by kernel_rfl) ?_
    repeat (first
      | go_big_quiet_skip
      | (go_big_quiet_want; go_big_quiet_op; go_big_quiet_on)
      | (go_big_quiet_want; go_big_quiet_op; apply Exists.intro; refine ⟨fun _ hb' => ?_, ?_⟩; (first
        | exact Lw.val_rfl _
        | (go_at_call 65; exact Lw.calls_below hb' (HC.out _))
        | (go_at_call 64; exact Lw.calls_below hb' (HD.out _))
        | (simp [go_sem, (HA.out _ hb').1]; rfl)
        | (simp [go_sem, (HA.out _ hb').2.1]; rfl)
        | (simp [go_sem, (HA.out _ hb').2.2]; rfl)); go_big_quiet_on))
    refine wpQuiet_nil ?_
    intro wz hbz
    have HBz : Hid (Below w.heap.size w wz) := hbz
    clear hbz
    go_wp2
    go_ret
    exact ⟨rfl, HBz.out⟩
  · rw [if_neg hc]
    have HC : Hid (∀ w1, Calls Tryd.prog 65 #[.int .i64 m.nodes, .int .i64 x.owner] w1 fun e w' => e = .returned (.bool true) ∧ Below w1.heap.size w1 w') := fun w1 => ck_hasB w1 _ _ _ HN.out (by unfold Mx.within; rw [decide_eq_true h0, decide_eq_true (show x.owner ≤ m.nodes - 1 by omega)]; rfl)
    have HD : Hid (∀ w1, Calls Tryd.prog 64 #[.bool false, .int .i64 141] w1 fun e w' => e = .returned (.int .i64 0) ∧ Below w1.heap.size w1 w') := fun w1 => ck_tellB w1 _ _ _ rfl
    clear hc h0 hs
    go_enter Tryd.func67, Tryd.ntmps67
    go_wp2_with fail
    refine Lw.wp_region_quiet_below (by kernel_rfl) (by kernel_rfl) ?_
    repeat (first
      | go_big_quiet_skip
      | (go_big_quiet_want; go_big_quiet_op; go_big_quiet_on)
      | (go_big_quiet_want; go_big_quiet_op; apply Exists.intro; refine ⟨fun _ hb' => ?_, ?_⟩; (first
        | exact Lw.val_rfl _
        | (go_at_call 65; exact Lw.calls_below hb' (HC.out _))
        | (go_at_call 64; exact Lw.calls_below hb' (HD.out _))
        | (simp [go_sem, (HA.out _ hb').1]; rfl)
        | (simp [go_sem, (HA.out _ hb').2.1]; rfl)
        | (simp [go_sem, (HA.out _ hb').2.2]; rfl)); go_big_quiet_on))
    refine wpQuiet_nil ?_
    intro wz hbz
    have HBz : Hid (Below w.heap.size w wz) := hbz
    clear hbz
    go_wp2
    go_ret
    exact ⟨rfl, HBz.out⟩

set_option maxRecDepth 100000 in
set_option maxHeartbeats 4000000 in
theorem ck_twM (W w : World) (p : Nat) (m : Mx.M) (a : Ma) (j k : Nat) (hX : Bx W w p m a) (hi : Mx.is m = true) (hj : j < k) (hk : k < m.masters.length) : Calls Tryd.prog 69 #[.int .i64 (j : Int), .int .i64 (k : Int), Ob.ptr p] w fun e w' => e = .returned (.int .i64 (if Lq.twM m j k then 142 else 0)) ∧ Below w.heap.size w w' := by
  obtain ⟨x, hx⟩ : ∃ x, m.masters[j]? = some x := ⟨_, List.getElem?_eq_getElem (Nat.lt_trans hj hk)⟩
  obtain ⟨y, hy⟩ : ∃ y, m.masters[k]? = some y := ⟨_, List.getElem?_eq_getElem hk⟩
  have HX : Hid (Bx W w p m a) := hX
  have n := Pq.num_of hi
  have hl : (m.masters.length : Int) ≤ 1000 := by have := n.l1; omega
  have hki : (k : Int) < (m.masters.length : Int) := by omega
  have hji : (j : Int) < (m.masters.length : Int) := by omega
  obtain ⟨b, hb0⟩ : ∃ b, Lq.twM m j k = b := ⟨_, rfl⟩
  have hb : (x == y) = b := by
    rw [← hb0]
    unfold Lq.twM
    rw [hx, hy]
    by_cases h : x = y <;> simp [h]
  obtain ⟨g, o, hs, _⟩ := HX.out.mem.master hx
  have HA : Hid (∀ w', Below w.heap.size w w' → w'.cell? ⟨p, 8, none⟩ = some (.slice (some ⟨g, o, none⟩) m.masters.length a.c1) ∧ w'.cell? ⟨g, o + j, none⟩ = some (.int .i64 x) ∧ w'.cell? ⟨g, o + k, none⟩ = some (.int .i64 y)) := fun w' hb => by
    have h8 := (HX.out.on hb).row.mat.2.2.2.2.2.2.2.2.1
    obtain ⟨g1, o1, e1, _, q⟩ := (HX.out.on hb).mem.master hx
    obtain ⟨g2, o2, e2, _, q2⟩ := (HX.out.on hb).mem.master hy
    rw [hs] at e1 e2 h8
    injection e1 with e1
    injection e1 with e1 e1o
    injection e2 with e2
    injection e2 with e2 e2o
    subst e1 e1o e2 e2o
    exact ⟨h8, q, q2⟩
  rw [hb0]
  clear hX hi n hk hj hx hy hs hb0
  generalize m.masters.length = L at *
  have HD : Hid (∀ w1, Calls Tryd.prog 64 #[.bool b, .int .i64 142] w1 fun e w' => e = .returned (.int .i64 (if b then 142 else 0)) ∧ Below w1.heap.size w1 w') := fun w1 => ck_tellB w1 _ _ _ rfl
  generalize (if b then (142 : Int) else 0) = R at *
  go_enter Tryd.func69, Tryd.ntmps69
  go_wp2_with fail
  refine Lw.wp_region_quiet_below (by kernel_rfl) (by kernel_rfl) ?_
  repeat (first
    | go_big_quiet_skip
    | (go_big_quiet_want; go_big_quiet_op; go_big_quiet_on)
    | (go_big_quiet_want; go_big_quiet_op; apply Exists.intro; refine ⟨fun _ hb' => ?_, ?_⟩; (first
      | exact Lw.val_rfl _
      | (go_at_call 64; exact Lw.calls_below hb' (HD.out _))
      | (simp [go_sem, (HA.out _ hb').1]; rfl)
      | (simp [go_sem, (HA.out _ hb').2.1]; rfl)
      | (simp [go_sem, (HA.out _ hb').2.2]; rfl)); go_big_quiet_on))
  refine wpQuiet_nil ?_
  intro wz hbz
  have HBz : Hid (Below w.heap.size w wz) := hbz
  clear hbz
  go_wp2
  go_ret
  exact ⟨rfl, HBz.out⟩

set_option maxRecDepth 100000 in
set_option maxHeartbeats 4000000 in
theorem ck_twI (W w : World) (p : Nat) (m : Mx.M) (a : Ma) (j k : Nat) (hX : Bx W w p m a) (hi : Mx.is m = true) (hj : j < k) (hk : k < m.messages.length) : Calls Tryd.prog 71 #[.int .i64 (j : Int), .int .i64 (k : Int), Ob.ptr p] w fun e w' => e = .returned (.int .i64 (if Lq.twI m j k then 142 else 0)) ∧ Below w.heap.size w w' := by
  obtain ⟨x, hx⟩ : ∃ x, m.messages[j]? = some x := ⟨_, List.getElem?_eq_getElem (Nat.lt_trans hj hk)⟩
  obtain ⟨y, hy⟩ : ∃ y, m.messages[k]? = some y := ⟨_, List.getElem?_eq_getElem hk⟩
  have HX : Hid (Bx W w p m a) := hX
  have n := Pq.num_of hi
  have hl : (m.messages.length : Int) ≤ 1000 := by have := n.l2; omega
  have hki : (k : Int) < (m.messages.length : Int) := by omega
  have hji : (j : Int) < (m.messages.length : Int) := by omega
  obtain ⟨b, hb0⟩ : ∃ b, Lq.twI m j k = b := ⟨_, rfl⟩
  have hb : ((x.id : Int) == (y.id : Int)) = b := by
    rw [← hb0]
    unfold Lq.twI
    rw [hx, hy]
    by_cases h : x.id = y.id <;> simp [h]; omega
  obtain ⟨g, o, hs, _⟩ := HX.out.mem.message hx
  have HA : Hid (∀ w', Below w.heap.size w w' → w'.cell? ⟨p, 9, none⟩ = some (.slice (some ⟨g, o, none⟩) m.messages.length a.c2) ∧ w'.cell? ⟨g, o + j * 3, none⟩ = some (.int .u32 (x.id : Int)) ∧ w'.cell? ⟨g, o + k * 3, none⟩ = some (.int .u32 (y.id : Int))) := fun w' hb => by
    have h8 := (HX.out.on hb).row.mat.2.2.2.2.2.2.2.2.2.1
    obtain ⟨g1, o1, e1, _, q, _⟩ := (HX.out.on hb).mem.message hx
    obtain ⟨g2, o2, e2, _, q2, _⟩ := (HX.out.on hb).mem.message hy
    rw [hs] at e1 e2 h8
    injection e1 with e1
    injection e1 with e1 e1o
    injection e2 with e2
    injection e2 with e2 e2o
    subst e1 e1o e2 e2o
    exact ⟨h8, q, q2⟩
  rw [hb0]
  clear hX hi n hk hj hx hy hs hb0
  generalize m.messages.length = L at *
  have HD : Hid (∀ w1, Calls Tryd.prog 64 #[.bool b, .int .i64 142] w1 fun e w' => e = .returned (.int .i64 (if b then 142 else 0)) ∧ Below w1.heap.size w1 w') := fun w1 => ck_tellB w1 _ _ _ rfl
  generalize (if b then (142 : Int) else 0) = R at *
  go_enter Tryd.func71, Tryd.ntmps71
  go_wp2_with fail
  refine Lw.wp_region_quiet_below (by kernel_rfl) (by kernel_rfl) ?_
  repeat (first
    | go_big_quiet_skip
    | (go_big_quiet_want; go_big_quiet_op; go_big_quiet_on)
    | (go_big_quiet_want; go_big_quiet_op; apply Exists.intro; refine ⟨fun _ hb' => ?_, ?_⟩; (first
      | exact Lw.val_rfl _
      | (go_at_call 64; exact Lw.calls_below hb' (HD.out _))
      | (simp [go_sem, (HA.out _ hb').1]; rfl)
      | (simp [go_sem, (HA.out _ hb').2.1]; rfl)
      | (simp [go_sem, (HA.out _ hb').2.2]; rfl)); go_big_quiet_on))
  refine wpQuiet_nil ?_
  intro wz hbz
  have HBz : Hid (Below w.heap.size w wz) := hbz
  clear hbz
  go_wp2
  go_ret
  exact ⟨rfl, HBz.out⟩

set_option maxRecDepth 100000 in
set_option maxHeartbeats 4000000 in
theorem ck_beat (W w : World) (p : Nat) (m : Mx.M) (a : Ma) (k : Nat) (hX : Bx W w p m a) (hi : Mx.is m = true) (hk : k < m.messages.length) : Calls Tryd.prog 70 #[.int .i64 (k : Int), Ob.ptr p] w fun e w' => e = .returned (.int .i64 (Lq.beatI m k)) ∧ Below w.heap.size w w' := by
  obtain ⟨x, hx⟩ : ∃ x, m.messages[k]? = some x := ⟨_, List.getElem?_eq_getElem hk⟩
  have n := Pq.num_of hi
  have hr := n.ref
  have hid := (n.messages x (List.mem_of_getElem? hx)).1
  have hl : (m.messages.length : Int) ≤ 1000 := by have := n.l2; omega
  have hki : (k : Int) < (m.messages.length : Int) := by omega
  have he : Lq.beatI m k = if m.ref ≤ x.id ∧ x.id ≤ m.ref + 7 then 142 else 0 := by unfold Lq.beatI; rw [hx]
  obtain ⟨g, o, hs, _, c0, _⟩ := hX.mem.message hx
  have c7 := hX.row.mat.2.2.2.2.2.2.2.1
  have c9 := hX.row.mat.2.2.2.2.2.2.2.2.2.1
  rw [hs] at c9
  rw [he]
  have HD : Hid (∀ w1 (b : Bool) (r : Int), (if b then (142 : Int) else 0) = r → Calls Tryd.prog 64 #[.bool b, .int .i64 142] w1 fun e w' => e = .returned (.int .i64 r) ∧ w' = w1) := fun w1 b r hr => (ck_tell w1 b 142).mono fun e w' ⟨h1, h2⟩ => by rw [h1, hr, h2]; exact ⟨rfl, rfl⟩
  clear hX hi n hx he hs
  have hr2 : (m.ref : Int) < 65536 := by omega
  have hid2 : (x.id : Int) < 65536 := by omega
  generalize m.ref = R at *
  generalize x.id = I at *
  generalize m.messages.length = L at *
  clear hr hid
  by_cases h1 : R ≤ I
  · have i1 : (R : Int) ≤ (I : Int) := by omega
    by_cases h2 : I ≤ R + 7
    · have i2 : (I : Int) ≤ (R : Int) + 7 := by omega
      rw [if_pos ⟨h1, h2⟩]
      go_enter Tryd.func70, Tryd.ntmps70
      go_wp2_with fail
      refine (HD.out _ _ _ rfl).mono ?_
      rintro e w1 ⟨rfl, rfl⟩
      go_wp2
      go_ret
      exact ⟨by simp, Below.refl _ _⟩
    · have i2 : ¬ ((I : Int) ≤ (R : Int) + 7) := by omega
      have i3 : (R : Int) + 7 < (I : Int) := by omega
      rw [if_neg (fun h => h2 h.2)]
      go_enter Tryd.func70, Tryd.ntmps70
      go_wp2_with fail
      refine (HD.out _ _ _ rfl).mono ?_
      rintro e w1 ⟨rfl, rfl⟩
      go_wp2
      go_ret
      exact ⟨by simp, Below.refl _ _⟩
  · have i1 : ¬ ((R : Int) ≤ (I : Int)) := by omega
    have i3 : I < R := by omega
    rw [if_neg (fun h => h1 h.1)]
    go_enter Tryd.func70, Tryd.ntmps70
    go_wp2_with fail
    refine (HD.out _ _ _ rfl).mono ?_
    rintro e w1 ⟨rfl, rfl⟩
    go_wp2
    go_ret
    exact ⟨by simp, Below.refl _ _⟩

/-- Whether there is such a message, and it is a state. -/
def Lq.state (m : Mx.M) (i : Int) : Bool := match Lq.noMsg.getMsg m i with | some y => !y.event | none => false
theorem Lq.noMsg_eq (m : Mx.M) (x : Mx.Win) : Lq.noMsg m x = (x.kind == 1 && !Lq.state m x.msg) := by
  unfold Lq.noMsg Lq.state
  cases Lq.noMsg.getMsg m x.msg with
  | none => rfl
  | some y => simp

set_option maxRecDepth 100000 in
set_option maxHeartbeats 4000000 in
theorem ck_isState (w : World) (m : Mx.M) (a : Ma) (i : Int) (hm : MIn w m a) (hS : Mx.Small m) : Calls Tryd.prog 73 #[mV m a, .int .i64 i] w fun e w' => e = .returned (.bool (Lq.state m i)) ∧ Below w.heap.size w w' := by
  have HX : Hid (Bx w (w.alloc (.cells (mCs m a) 27)) w.heap.size m a) := Bx.mk' hm
  have y9 := HX.out.row.mat.2.2.2.2.2.2.2.2.2.1
  have hl : (m.messages.length : Int) ≤ 1000 := by have := hS.b; omega
  have HW1 : Hid (∀ (w1 : World) (b : Bool), Mx.within i 0 ((m.messages.length : Int) - 1) = b → Calls Tryd.prog 65 #[.int .i64 (m.messages.length : Int), .int .i64 i] w1 fun e w' => e = .returned (.bool b) ∧ w' = w1) := fun w1 b hb => hb ▸ ck_has w1 _ i (wfi (by omega))
  show Calls _ _ #[.agg (mCs m a), _] _ _
  generalize mCs m a = cs at HX y9 ⊢
  clear hm hS
  unfold Lq.state Lq.noMsg.getMsg
  cases h1 : Mx.within i 0 ((m.messages.length : Int) - 1)
  · have hN : (if 0 ≤ i then m.messages[i.toNat]? else none) = none := by
      split
      · refine List.getElem?_eq_none ?_
        unfold Mx.within at h1
        simp at h1
        omega
      · rfl
    rw [hN]
    go_enter Tryd.func73, Tryd.ntmps73
    go_wp2_with fail
    refine (HW1.out _ _ h1).mono ?_
    rintro e w9 ⟨rfl, rfl⟩
    go_wp2
    go_ret
    exact ⟨rfl, HX.out.below⟩
  · rw [Pq.within_iff] at h1
    obtain ⟨k, rfl⟩ := Int.eq_ofNat_of_zero_le h1.1
    have hk : k < m.messages.length := by omega
    obtain ⟨y, hy⟩ : ∃ y, m.messages[k]? = some y := ⟨_, List.getElem?_eq_getElem hk⟩
    rw [if_pos h1.1, Int.toNat_natCast, hy]
    have hki : (k : Int) < (m.messages.length : Int) := by omega
    have hw : Mx.within (k : Int) 0 ((m.messages.length : Int) - 1) = true := Pq.within_iff.2 h1
    obtain ⟨g, o, hs, _, _, _, c2⟩ := HX.out.mem.message hy
    rw [hs] at y9
    have HC := HW1.out (w.alloc (.cells cs 27)) _ hw
    clear h1 hw hs hy HW1 hk
    generalize m.messages.length = L at *
    go_enter Tryd.func73, Tryd.ntmps73
    go_wp2_with fail
    refine HC.mono ?_
    rintro e w9 ⟨rfl, rfl⟩
    go_wp2
    go_ret
    exact ⟨rfl, HX.out.below⟩

set_option maxRecDepth 100000 in
set_option maxHeartbeats 4000000 in
theorem ck_hasRoom (w : World) (x : Mx.Win) (st : Int) (h1 : 0 ≤ x.start ∧ x.start < 65536) (h2 : 0 ≤ x.fin ∧ x.fin < 65536) : Calls Tryd.prog 74 #[.agg (mC3 x).toArray, .int .i64 st] w fun e w' => e = .returned (.bool (!(decide (x.start < st) || x.kind != 3 && decide (x.fin - x.start < st)))) ∧ Below w.heap.size w w' := by
  have r1 : RowT 58 (w.alloc (.cells (mC3 x).toArray 58)) w.heap.size (mC3 x).toArray := RowT.new _ w _
  have HB : Hid (Below w.heap.size w (w.alloc (.cells (mC3 x).toArray 58))) := (Below.refl _ _).alloc (Nat.le_refl _) _
  have x0 := r1.c 0 (.int .i64 x.kind) rfl
  have x1 := r1.c 1 (.int .i64 x.start) rfl
  have x2 := r1.c 2 (.int .i64 x.fin) rfl
  clear r1
  generalize (mC3 x).toArray = cx at *
  generalize x.kind = K at *
  generalize x.start = S at *
  generalize x.fin = E at *
  obtain ⟨a1, a2⟩ := h1
  obtain ⟨a3, a4⟩ := h2
  by_cases c1 : S < st
  · rw [decide_eq_true c1, Bool.true_or]
    have c1' : ¬ (st ≤ S) := by omega
    go_enter Tryd.func74, Tryd.ntmps74
    go_wp2
    go_ret
    exact ⟨rfl, HB.out⟩
  · rw [decide_eq_false c1, Bool.false_or]
    have c1' : st ≤ S := by omega
    by_cases c2 : K = 3
    · subst c2
      go_enter Tryd.func74, Tryd.ntmps74
      go_wp2
      go_ret
      exact ⟨rfl, HB.out⟩
    · have c2' : (K == 3) = false := by simpa using c2
      rw [show (K != 3) = true by simpa [bne] using c2, Bool.true_and]
      by_cases c3 : E - S < st
      · rw [decide_eq_true c3]
        have c3' : ¬ (st ≤ E - S) := by omega
        go_enter Tryd.func74, Tryd.ntmps74
        go_wp2
        go_ret
        exact ⟨rfl, HB.out⟩
      · rw [decide_eq_false c3]
        have c3' : st ≤ E - S := by omega
        go_enter Tryd.func74, Tryd.ntmps74
        go_wp2
        go_ret
        exact ⟨rfl, HB.out⟩

set_option maxRecDepth 100000 in
set_option maxHeartbeats 4000000 in
theorem ck_meets (W w : World) (p : Nat) (m : Mx.M) (a : Ma) (j k : Nat) (hX : Bx W w p m a) (hi : Mx.is m = true) : Calls Tryd.prog 75 #[.int .i64 (j : Int), .int .i64 (k : Int), Ob.ptr p] w fun e w' => e = .returned (.int .i64 (if Lq.meet m (j : Int) (k : Int) then 143 else 0)) ∧ Below w.heap.size w w' := by
  obtain ⟨y0, y1, y2, y3, y4, y5, y6, y7, y8, y9, y10⟩ := hX.row.mat
  have HC : Hid (Calls Tryd.prog 76 #[mV m a, .int .i64 (j : Int), .int .i64 (k : Int)] w fun e w' => e = .returned (.bool (Lq.meet m (j : Int) (k : Int))) ∧ Below w.heap.size w w') := ck_meet w m a _ _ hX.mem (Mx.small_is hi) (Mx.wf_is hi)
  clear hX hi
  generalize Lq.meet m (j : Int) (k : Int) = b at *
  obtain ⟨R, hR⟩ : ∃ R, (if b then (143 : Int) else 0) = R := ⟨_, rfl⟩
  rw [hR]
  have HD : Hid (∀ w1, Calls Tryd.prog 64 #[.bool b, .int .i64 143] w1 fun e w' => e = .returned (.int .i64 R) ∧ w' = w1) := fun w1 => ck_tellS w1 _ _ _ hR
  clear hR
  go_enter Tryd.func75, Tryd.ntmps75
  go_wp2_with fail
  refine HC.out.mono ?_
  rintro e w1 ⟨rfl, hb⟩
  clear HC y0 y1 y2 y3 y4 y5 y6 y7 y8 y9 y10
  have HB : Hid (Below w.heap.size w w1) := hb
  clear hb
  go_wp2_with fail
  refine (HD.out _).mono ?_
  rintro e w2 ⟨rfl, rfl⟩
  go_wp2
  go_ret
  exact ⟨rfl, HB.out⟩

set_option maxRecDepth 100000 in
set_option maxHeartbeats 4000000 in
theorem ck_own (W w : World) (p q : Nat) (m : Mx.M) (a : Ma) (k : Nat) (hX : Bx W w p m a) (hq : w.cell? ⟨q, 0, none⟩ = some (.int .i64 (Lq.step m))) (hql : q < w.heap.size) (hi : Mx.is m = true) (hk : k < m.windows.length) : Calls Tryd.prog 72 #[.int .i64 (k : Int), Ob.ptr p, Ob.ptr q] w fun e w' => e = .returned (.int .i64 (Lq.own m k)) ∧ Below w.heap.size w w' := by
  obtain ⟨x, hx⟩ : ∃ x, m.windows[k]? = some x := ⟨_, List.getElem?_eq_getElem hk⟩
  have n := Pq.num_of hi
  obtain ⟨_, n1, n2, _⟩ := n.windows x (List.mem_of_getElem? hx)
  have hl : (m.windows.length : Int) ≤ 1000 := by have := n.l3; omega
  have hki : (k : Int) < (m.windows.length : Int) := by omega
  have he := Lq.own_at hx
  rw [he]
  obtain ⟨g, o, hs, _, c0, c1, c2, c3, c4, c5⟩ := hX.mem.window hx
  have c10 := hX.row.mat.2.2.2.2.2.2.2.2.2.2
  rw [hs] at c10
  have HX : Hid (Bx W w p m a) := hX
  have HQ : Hid (∀ w', Below w.heap.size w w' → w'.cell? ⟨q, 0, none⟩ = some (.int .i64 (Lq.step m))) := fun w' hb => (hb.cell (p := ⟨q, 0, none⟩) hql).trans hq
  have HS : Hid (∀ w1, Bx W w1 p m a → Calls Tryd.prog 73 #[mV m a, .int .i64 x.msg] w1 fun e w' => e = .returned (.bool (Lq.state m x.msg)) ∧ Below w1.heap.size w1 w') := fun w1 h => ck_isState w1 m a x.msg h.mem (Mx.small_is hi)
  have HR : Hid (∀ w1, Calls Tryd.prog 74 #[.agg #[.int .i64 x.kind, .int .i64 x.start, .int .i64 x.fin, .int .i64 x.cycle, .int .i64 x.rep, .int .i64 x.msg], .int .i64 (Lq.step m)] w1 fun e w' => e = .returned (.bool (!Lq.tight m x)) ∧ Below w1.heap.size w1 w') := fun w1 => ck_hasRoom w1 x (Lq.step m) n1 n2
  rw [Lq.noMsg_eq]
  clear hX hq hql hi n n1 n2 hx he hk hs
  generalize m.windows.length = L at *
  generalize Lq.step m = st at *
  generalize Lq.tight m x = tg at *
  generalize Lq.state m x.msg = sb at *
  obtain ⟨R, hR⟩ : ∃ R : Int, (if (x.kind == 1 && !sb) = true then (145 : Int) else if tg = true then 144 else 0) = R := ⟨_, rfl⟩
  rw [hR]
  have HRe : Hid ((if (x.kind == 1 && !sb) = true then (145 : Int) else if tg = true then 144 else 0) = R) := hR
  clear hR
  have hb0 : Below w.heap.size w (w.alloc (.cells #[.int .i64 x.kind, .int .i64 x.start, .int .i64 x.fin, .int .i64 x.cycle, .int .i64 x.rep, .int .i64 x.msg] 58)) := (Below.refl _ _).alloc (Nat.le_refl _) _
  have HW : Hid (RowT 58 (w.alloc (.cells #[.int .i64 x.kind, .int .i64 x.start, .int .i64 x.fin, .int .i64 x.cycle, .int .i64 x.rep, .int .i64 x.msg] 58)) w.heap.size (mC3 x).toArray) := RowT.new _ w _
  replace HX : Hid (Bx W (w.alloc (.cells #[.int .i64 x.kind, .int .i64 x.start, .int .i64 x.fin, .int .i64 x.cycle, .int .i64 x.rep, .int .i64 x.msg] 58)) p m a) := HX.out.on hb0
  have HB : Hid (Below w.heap.size w (w.alloc (.cells #[.int .i64 x.kind, .int .i64 x.start, .int .i64 x.fin, .int .i64 x.cycle, .int .i64 x.rep, .int .i64 x.msg] 58))) := hb0
  clear hb0
  go_enter Tryd.func72, Tryd.ntmps72
  go_upto_region 2 with fail
  generalize w.alloc (.cells #[.int .i64 x.kind, .int .i64 x.start, .int .i64 x.fin, .int .i64 x.cycle, .int .i64 x.rep, .int .i64 x.msg] 58) = v at HX HW HB ⊢
  clear c0 c1 c2 c3 c4 c5 c10
  generalize w.heap.size = r at HW ⊢
  by_cases hk1 : x.kind = 1
  · have hk2 : (x.kind == 1) = true := by simpa using hk1
    have u0 : v.cell? ⟨r, 0, none⟩ = some (.int .i64 1) := by have h := HW.out.c 0 (.int .i64 x.kind) rfl; rw [hk1] at h; exact h
    have u5 : v.cell? ⟨r, 5, none⟩ = some (.int .i64 x.msg) := HW.out.c 5 _ rfl
    obtain ⟨y0, y1, y2, y3, y4, y5, y6, y7, y8, y9, y10⟩ := HX.out.row.mat
    have HC := HS.out v HX.out
    clear HS
    cases sb
    · obtain rfl : R = 145 := by rw [← HRe.out, hk2]; rfl
      clear HRe hk2
      go_wp2_with fail
      refine HC.mono ?_
      rintro e w1 ⟨rfl, hb⟩
      have HB1 : Hid (Below w.heap.size w w1) := HB.out.trans (hb.mono HB.out.size)
      clear hb HC y0 y1 y2 y3 y4 y5 y6 y7 y8 y9 y10 u0 u5
      go_wp2
      go_ret
      exact ⟨rfl, HB1.out⟩
    · replace HRe : Hid ((if tg = true then (144 : Int) else 0) = R) := by have h := HRe.out; rw [hk2] at h; exact h
      clear hk2
      go_wp2_with fail
      refine HC.mono ?_
      rintro e w1 ⟨rfl, hb⟩
      have HB1 : Hid (Below w.heap.size w w1) := HB.out.trans (hb.mono HB.out.size)
      have HW1 : Hid (RowT 58 w1 r (mC3 x).toArray) := HW.out.on hb
      clear hb HC HW HB HX y0 y1 y2 y3 y4 y5 y6 y7 y8 y9 y10 u0 u5 hk1
      have u0 : w1.cell? ⟨r, 0, none⟩ = some (.int .i64 x.kind) := HW1.out.c 0 _ rfl
      have u1 : w1.cell? ⟨r, 1, none⟩ = some (.int .i64 x.start) := HW1.out.c 1 _ rfl
      have u2 : w1.cell? ⟨r, 2, none⟩ = some (.int .i64 x.fin) := HW1.out.c 2 _ rfl
      have u3 : w1.cell? ⟨r, 3, none⟩ = some (.int .i64 x.cycle) := HW1.out.c 3 _ rfl
      have u4 : w1.cell? ⟨r, 4, none⟩ = some (.int .i64 x.rep) := HW1.out.c 4 _ rfl
      have u5 : w1.cell? ⟨r, 5, none⟩ = some (.int .i64 x.msg) := HW1.out.c 5 _ rfl
      have s0 := HQ.out w1 HB1.out
      go_wp2_with fail
      refine (HR.out _).mono ?_
      rintro e w2 ⟨rfl, hb⟩
      have HB2 : Hid (Below w.heap.size w w2) := HB1.out.trans (hb.mono HB1.out.size)
      clear hb u0 u1 u2 u3 u4 u5 s0
      cases tg
      · obtain rfl : R = 0 := HRe.out.symm
        go_wp2_with fail
        refine (ck_tellS _ _ _ _ rfl).mono ?_
        rintro e w3 ⟨rfl, rfl⟩
        go_wp2
        go_ret
        exact ⟨rfl, HB2.out⟩
      · obtain rfl : R = 144 := HRe.out.symm
        go_wp2_with fail
        refine (ck_tellS _ _ _ _ rfl).mono ?_
        rintro e w3 ⟨rfl, rfl⟩
        go_wp2
        go_ret
        exact ⟨rfl, HB2.out⟩
  · have hk2 : (x.kind == 1) = false := by simpa using hk1
    replace HRe : Hid ((if tg = true then (144 : Int) else 0) = R) := by have h := HRe.out; rw [hk2] at h; exact h
    have u0 : v.cell? ⟨r, 0, none⟩ = some (.int .i64 x.kind) := HW.out.c 0 _ rfl
    have u1 : v.cell? ⟨r, 1, none⟩ = some (.int .i64 x.start) := HW.out.c 1 _ rfl
    have u2 : v.cell? ⟨r, 2, none⟩ = some (.int .i64 x.fin) := HW.out.c 2 _ rfl
    have u3 : v.cell? ⟨r, 3, none⟩ = some (.int .i64 x.cycle) := HW.out.c 3 _ rfl
    have u4 : v.cell? ⟨r, 4, none⟩ = some (.int .i64 x.rep) := HW.out.c 4 _ rfl
    have u5 : v.cell? ⟨r, 5, none⟩ = some (.int .i64 x.msg) := HW.out.c 5 _ rfl
    have s0 := HQ.out v HB.out
    go_wp2_with fail
    refine (HR.out _).mono ?_
    rintro e w2 ⟨rfl, hb⟩
    have HB2 : Hid (Below w.heap.size w w2) := HB.out.trans (hb.mono HB.out.size)
    clear hb u0 u1 u2 u3 u4 u5 s0
    cases tg
    · obtain rfl : R = 0 := HRe.out.symm
      go_wp2_with fail
      refine (ck_tellS _ _ _ _ rfl).mono ?_
      rintro e w3 ⟨rfl, rfl⟩
      go_wp2
      go_ret
      exact ⟨rfl, HB2.out⟩
    · obtain rfl : R = 144 := HRe.out.symm
      go_wp2_with fail
      refine (ck_tellS _ _ _ _ rfl).mono ?_
      rintro e w3 ⟨rfl, rfl⟩
      go_wp2
      go_ret
      exact ⟨rfl, HB2.out⟩

end Go.Proofs.YtnbfnipdiffphaaDoor
/- Package check, over the landed code: the first place at which something is wrong, of itself or between it and one ahead of it. -/
namespace Go.Proofs.YtnbfnipdiffphaaDoor
open Go.RowKit Go.WideShapes
set_option linter.unusedVariables false

set_option maxRecDepth 100000 in
set_option maxHeartbeats 4000000 in
theorem ck_first1 (W : World) (n : Nat) (hn : n ≤ 1000) (p : Nat) (f : Nat → Int) (g : Nat → Nat → Int)
    (hf : ∀ w (k : Nat), Below W.heap.size W w → k < n → Calls Tryd.prog 63 #[.int .i64 (k : Int), Ob.ptr p] w fun e w' => e = .returned (.int .i64 (f k)) ∧ Below w.heap.size w w') (hg : ∀ w (j k : Nat), Below W.heap.size W w → j < k → k < n → Calls Tryd.prog 66 #[.int .i64 (j : Int), .int .i64 (k : Int)] w fun e w' => e = .returned (.int .i64 (g j k)) ∧ Below w.heap.size w w') :
    Calls Tryd.prog 62 #[.int .i64 (n : Int), .func (.func 63) #[] #[Ob.ptr p], .func (.func 66) #[] #[]] W fun e w' => e = .returned (.tuple #[.int .i64 (Lq.scan (Lq.pr f g) n 0).1, .int .i64 (Lq.scan (Lq.pr f g) n 0).2]) ∧ Below W.heap.size W w' := by
  have HR1 : Hid (∀ k, k < n → (∀ j, j < k → Lq.pr f g j = 0) → f k ≠ 0 → Lq.scan (Lq.pr f g) n 0 = ((k : Int), f k)) := fun k hk h0 h1 => by
    have h2 := Lq.pr_self (g := g) h1
    rw [Lq.scan_some (f := Lq.pr f g) (by rw [h2]; exact h1) (Nat.zero_le _) (by omega) (fun i _ hi => h0 i hi), h2]
  have HR2 : Hid (∀ k j, k < n → j < k → (∀ j, j < k → Lq.pr f g j = 0) → f k = 0 → (∀ i, i < j → g i k = 0) → g j k ≠ 0 → Lq.scan (Lq.pr f g) n 0 = ((k : Int), g j k)) := fun k j hk hj h0 hf0 hi h1 => by
    have h2 := Lq.pr_pair hf0 hi hj h1
    rw [Lq.scan_some (f := Lq.pr f g) (by rw [h2]; exact h1) (Nat.zero_le _) (by omega) (fun i _ hi => h0 i hi), h2]
  have HR3 : Hid ((∀ j, j < n → Lq.pr f g j = 0) → Lq.scan (Lq.pr f g) n 0 = (0, 0)) := fun h => Lq.scan_none (fun j _ hj => h j (by omega))
  have HN : Hid (∀ k, (∀ j, j < k → Lq.pr f g j = 0) → f k = 0 → (∀ i, i < k → g i k = 0) → ∀ j, j < k + 1 → Lq.pr f g j = 0) := fun k h0 h1 h2 => Lq.upto h0 (Lq.pr_none h1 h2)
  have CF : Hid (∀ w (k : Nat) (x : Int), Below W.heap.size W w → k < n → f k = x → Calls Tryd.prog 63 #[.int .i64 (k : Int), Ob.ptr p] w fun e w' => e = .returned (.int .i64 x) ∧ Below w.heap.size w w') := fun w k x hb hk hx => hx ▸ hf w k hb hk
  have CG : Hid (∀ w (j k : Nat) (x : Int), Below W.heap.size W w → j < k → k < n → g j k = x → Calls Tryd.prog 66 #[.int .i64 (j : Int), .int .i64 (k : Int)] w fun e w' => e = .returned (.int .i64 x) ∧ Below w.heap.size w w') := fun w j k x hb hj hk hx => hx ▸ hg w j k hb hj hk
  clear hf hg
  generalize Lq.scan (Lq.pr f g) n 0 = R at HR1 HR2 HR3 ⊢
  generalize Lq.pr f g = P at HR1 HR2 HR3 HN
  obtain ⟨R1, R2⟩ := R
  dsimp only
  go_enter Tryd.func62, Tryd.ntmps62
  go_wp2_with fail
  go_step3
  go_wp2_with fail
  go_step3
  go_upto_block 0 with fail
  go_cut [8, 9, 10, 11] from 12 to 34 (fun v8 v9 _v10 _v11 wx => v8 = .int .i64 R1 ∧ v9 = .int .i64 R2 ∧ Hid (Below W.heap.size W wx))
  case first =>
    go_wp2_with fail
    go_loopw [13, 8, 9, 10, 11] (fun vi v8 v9 _v10 _v11 wr => ∃ k : Nat, k ≤ n ∧ vi = .int .i64 (k : Int) ∧ v8 = .int .i64 0 ∧ v9 = .int .i64 0 ∧ Hid (Below W.heap.size W wr) ∧ Hid (∀ j, j < k → P j = 0)) (fun vi _ _ _ _ _ => n - (intOf vi).toNat)
    case atStart => exact ⟨0, Nat.zero_le _, rfl, rfl, rfl, Below.refl _ _, fun j hj => absurd hj (Nat.not_lt_zero _)⟩
    case round =>
      obtain ⟨k, hk, rfl, rfl, rfl, HB, HF⟩ := hrel
      by_cases hlt : k < n
      · have ki : (k : Int) < (n : Int) := by omega
        have kb : (k : Int) < 1000 := by omega
        obtain ⟨x, hx⟩ : ∃ x, f k = x := ⟨_, rfl⟩
        have HC := CF.out wr k x HB.out hlt hx
        by_cases hx0 : x = 0
        · subst hx0
          have HX0 : Hid (f k = 0) := hx
          clear hx
          go_wp2_with fail
          refine HC.mono ?_
          rintro e w1 ⟨rfl, hb⟩
          have HB1 : Hid (Below W.heap.size W w1) := HB.out.trans (hb.mono HB.out.size)
          clear hb HC HB
          go_wp2_with fail
          go_loopw [23, 8, 9, 11] (fun vi v8 v9 _v11 wr => ∃ j : Nat, j ≤ k ∧ vi = .int .i64 (j : Int) ∧ v8 = .int .i64 0 ∧ v9 = .int .i64 0 ∧ Hid (Below W.heap.size W wr) ∧ Hid (∀ i, i < j → g i k = 0)) (fun vi _ _ _ _ => k - (intOf vi).toNat)
          case atStart => exact ⟨0, Nat.zero_le _, rfl, rfl, rfl, HB1, fun j hj => absurd hj (Nat.not_lt_zero _)⟩
          case round =>
            clear HB1
            obtain ⟨j, hj, rfl, rfl, rfl, HB, HG⟩ := hrel
            by_cases hjk : j < k
            · have ji : (j : Int) < (k : Int) := by omega
              have jb : (j : Int) < 1000 := by omega
              obtain ⟨y, hy⟩ : ∃ y, g j k = y := ⟨_, rfl⟩
              have HC := CG.out _ j k y HB.out hjk hlt hy
              by_cases hy0 : y = 0
              · subst hy0
                have HG2 : Hid (∀ i, i < j + 1 → g i k = 0) := Lq.upto (f := fun i => g i k) HG.out hy
                clear hy HG
                go_wp2_with fail
                refine HC.mono ?_
                rintro e w2 ⟨rfl, hb⟩
                have HB2 : Hid (Below W.heap.size W w2) := HB.out.trans (hb.mono HB.out.size)
                clear hb HC HB
                go_wp2_with fail
                go_roundw
                case rel => exact ⟨j + 1, by omega, rfl, rfl, rfl, HB2, HG2⟩
                case measure => simp only [intOf]; omega
              · have hR := HR2.out k j hlt hjk HF.out HX0.out HG.out (by rw [hy]; exact hy0)
                have yb : (y != 0) = true := by simpa [bne] using hy0
                rw [hy] at hR
                obtain ⟨rfl, rfl⟩ : R1 = (k : Int) ∧ R2 = y := by injection hR with h1 h2; exact ⟨h1, h2⟩
                clear hR hy hy0 HR1 HR2 HR3 HN
                go_wp2_with fail
                refine HC.mono ?_
                rintro e w2 ⟨rfl, hb⟩
                have HB2 : Hid (Below W.heap.size W w2) := HB.out.trans (hb.mono HB.out.size)
                clear hb HC HB
                go_wp2_with fail
                go_meet
                case rel => exact ⟨rfl, rfl, HB2⟩
            · have ji : ¬ ((j : Int) < (k : Int)) := by omega
              have HF2 : Hid (∀ j, j < k + 1 → P j = 0) := HN.out k HF.out HX0.out (fun i hi => HG.out i (by omega))
              clear HG
              go_wp2_with fail
              go_roundw
              case rel => exact ⟨k + 1, by omega, rfl, rfl, rfl, HB, HF2⟩
              case measure => simp only [intOf]; omega
        · have hR := HR1.out k hlt HF.out (by rw [hx]; exact hx0)
          have xb : (x != 0) = true := by simpa [bne] using hx0
          rw [hx] at hR
          obtain ⟨rfl, rfl⟩ : R1 = (k : Int) ∧ R2 = x := by injection hR with h1 h2; exact ⟨h1, h2⟩
          clear hR hx hx0 HR1 HR2 HR3 HN
          go_wp2_with fail
          refine HC.mono ?_
          rintro e w1 ⟨rfl, hb⟩
          have HB1 : Hid (Below W.heap.size W w1) := HB.out.trans (hb.mono HB.out.size)
          clear hb HC HB
          go_wp2_with fail
          go_meet
          case rel => exact ⟨rfl, rfl, HB1⟩
      · have ki : ¬ ((k : Int) < (n : Int)) := by omega
        have hR := HR3.out (fun j hj => HF.out j (by omega))
        obtain ⟨rfl, rfl⟩ : R1 = 0 ∧ R2 = 0 := by injection hR with h1 h2; exact ⟨h1, h2⟩
        clear hR HR1 HR2 HR3 HN
        go_wp2_with fail
        go_meet
        case rel => exact ⟨rfl, rfl, HB⟩
  case rest =>
    obtain ⟨rfl, rfl, HB⟩ := hcut
    go_wp2
    rw [Exit.noGoto_ret]
    go_ret2
    exact ⟨rfl, HB.out⟩

set_option maxRecDepth 100000 in
set_option maxHeartbeats 4000000 in
theorem ck_first2 (W : World) (n : Nat) (hn : n ≤ 1000) (p : Nat) (f : Nat → Int) (g : Nat → Nat → Int)
    (hf : ∀ w (k : Nat), Below W.heap.size W w → k < n → Calls Tryd.prog 67 #[.int .i64 (k : Int), Ob.ptr p] w fun e w' => e = .returned (.int .i64 (f k)) ∧ Below w.heap.size w w') (hg : ∀ w (j k : Nat), Below W.heap.size W w → j < k → k < n → Calls Tryd.prog 66 #[.int .i64 (j : Int), .int .i64 (k : Int)] w fun e w' => e = .returned (.int .i64 (g j k)) ∧ Below w.heap.size w w') :
    Calls Tryd.prog 62 #[.int .i64 (n : Int), .func (.func 67) #[] #[Ob.ptr p], .func (.func 66) #[] #[]] W fun e w' => e = .returned (.tuple #[.int .i64 (Lq.scan (Lq.pr f g) n 0).1, .int .i64 (Lq.scan (Lq.pr f g) n 0).2]) ∧ Below W.heap.size W w' := by
  have HR1 : Hid (∀ k, k < n → (∀ j, j < k → Lq.pr f g j = 0) → f k ≠ 0 → Lq.scan (Lq.pr f g) n 0 = ((k : Int), f k)) := fun k hk h0 h1 => by
    have h2 := Lq.pr_self (g := g) h1
    rw [Lq.scan_some (f := Lq.pr f g) (by rw [h2]; exact h1) (Nat.zero_le _) (by omega) (fun i _ hi => h0 i hi), h2]
  have HR2 : Hid (∀ k j, k < n → j < k → (∀ j, j < k → Lq.pr f g j = 0) → f k = 0 → (∀ i, i < j → g i k = 0) → g j k ≠ 0 → Lq.scan (Lq.pr f g) n 0 = ((k : Int), g j k)) := fun k j hk hj h0 hf0 hi h1 => by
    have h2 := Lq.pr_pair hf0 hi hj h1
    rw [Lq.scan_some (f := Lq.pr f g) (by rw [h2]; exact h1) (Nat.zero_le _) (by omega) (fun i _ hi => h0 i hi), h2]
  have HR3 : Hid ((∀ j, j < n → Lq.pr f g j = 0) → Lq.scan (Lq.pr f g) n 0 = (0, 0)) := fun h => Lq.scan_none (fun j _ hj => h j (by omega))
  have HN : Hid (∀ k, (∀ j, j < k → Lq.pr f g j = 0) → f k = 0 → (∀ i, i < k → g i k = 0) → ∀ j, j < k + 1 → Lq.pr f g j = 0) := fun k h0 h1 h2 => Lq.upto h0 (Lq.pr_none h1 h2)
  have CF : Hid (∀ w (k : Nat) (x : Int), Below W.heap.size W w → k < n → f k = x → Calls Tryd.prog 67 #[.int .i64 (k : Int), Ob.ptr p] w fun e w' => e = .returned (.int .i64 x) ∧ Below w.heap.size w w') := fun w k x hb hk hx => hx ▸ hf w k hb hk
  have CG : Hid (∀ w (j k : Nat) (x : Int), Below W.heap.size W w → j < k → k < n → g j k = x → Calls Tryd.prog 66 #[.int .i64 (j : Int), .int .i64 (k : Int)] w fun e w' => e = .returned (.int .i64 x) ∧ Below w.heap.size w w') := fun w j k x hb hj hk hx => hx ▸ hg w j k hb hj hk
  clear hf hg
  generalize Lq.scan (Lq.pr f g) n 0 = R at HR1 HR2 HR3 ⊢
  generalize Lq.pr f g = P at HR1 HR2 HR3 HN
  obtain ⟨R1, R2⟩ := R
  dsimp only
  go_enter Tryd.func62, Tryd.ntmps62
  go_wp2_with fail
  go_step3
  go_wp2_with fail
  go_step3
  go_upto_block 0 with fail
  go_cut [8, 9, 10, 11] from 12 to 34 (fun v8 v9 _v10 _v11 wx => v8 = .int .i64 R1 ∧ v9 = .int .i64 R2 ∧ Hid (Below W.heap.size W wx))
  case first =>
    go_wp2_with fail
    go_loopw [13, 8, 9, 10, 11] (fun vi v8 v9 _v10 _v11 wr => ∃ k : Nat, k ≤ n ∧ vi = .int .i64 (k : Int) ∧ v8 = .int .i64 0 ∧ v9 = .int .i64 0 ∧ Hid (Below W.heap.size W wr) ∧ Hid (∀ j, j < k → P j = 0)) (fun vi _ _ _ _ _ => n - (intOf vi).toNat)
    case atStart => exact ⟨0, Nat.zero_le _, rfl, rfl, rfl, Below.refl _ _, fun j hj => absurd hj (Nat.not_lt_zero _)⟩
    case round =>
      obtain ⟨k, hk, rfl, rfl, rfl, HB, HF⟩ := hrel
      by_cases hlt : k < n
      · have ki : (k : Int) < (n : Int) := by omega
        have kb : (k : Int) < 1000 := by omega
        obtain ⟨x, hx⟩ : ∃ x, f k = x := ⟨_, rfl⟩
        have HC := CF.out wr k x HB.out hlt hx
        by_cases hx0 : x = 0
        · subst hx0
          have HX0 : Hid (f k = 0) := hx
          clear hx
          go_wp2_with fail
          refine HC.mono ?_
          rintro e w1 ⟨rfl, hb⟩
          have HB1 : Hid (Below W.heap.size W w1) := HB.out.trans (hb.mono HB.out.size)
          clear hb HC HB
          go_wp2_with fail
          go_loopw [23, 8, 9, 11] (fun vi v8 v9 _v11 wr => ∃ j : Nat, j ≤ k ∧ vi = .int .i64 (j : Int) ∧ v8 = .int .i64 0 ∧ v9 = .int .i64 0 ∧ Hid (Below W.heap.size W wr) ∧ Hid (∀ i, i < j → g i k = 0)) (fun vi _ _ _ _ => k - (intOf vi).toNat)
          case atStart => exact ⟨0, Nat.zero_le _, rfl, rfl, rfl, HB1, fun j hj => absurd hj (Nat.not_lt_zero _)⟩
          case round =>
            clear HB1
            obtain ⟨j, hj, rfl, rfl, rfl, HB, HG⟩ := hrel
            by_cases hjk : j < k
            · have ji : (j : Int) < (k : Int) := by omega
              have jb : (j : Int) < 1000 := by omega
              obtain ⟨y, hy⟩ : ∃ y, g j k = y := ⟨_, rfl⟩
              have HC := CG.out _ j k y HB.out hjk hlt hy
              by_cases hy0 : y = 0
              · subst hy0
                have HG2 : Hid (∀ i, i < j + 1 → g i k = 0) := Lq.upto (f := fun i => g i k) HG.out hy
                clear hy HG
                go_wp2_with fail
                refine HC.mono ?_
                rintro e w2 ⟨rfl, hb⟩
                have HB2 : Hid (Below W.heap.size W w2) := HB.out.trans (hb.mono HB.out.size)
                clear hb HC HB
                go_wp2_with fail
                go_roundw
                case rel => exact ⟨j + 1, by omega, rfl, rfl, rfl, HB2, HG2⟩
                case measure => simp only [intOf]; omega
              · have hR := HR2.out k j hlt hjk HF.out HX0.out HG.out (by rw [hy]; exact hy0)
                have yb : (y != 0) = true := by simpa [bne] using hy0
                rw [hy] at hR
                obtain ⟨rfl, rfl⟩ : R1 = (k : Int) ∧ R2 = y := by injection hR with h1 h2; exact ⟨h1, h2⟩
                clear hR hy hy0 HR1 HR2 HR3 HN
                go_wp2_with fail
                refine HC.mono ?_
                rintro e w2 ⟨rfl, hb⟩
                have HB2 : Hid (Below W.heap.size W w2) := HB.out.trans (hb.mono HB.out.size)
                clear hb HC HB
                go_wp2_with fail
                go_meet
                case rel => exact ⟨rfl, rfl, HB2⟩
            · have ji : ¬ ((j : Int) < (k : Int)) := by omega
              have HF2 : Hid (∀ j, j < k + 1 → P j = 0) := HN.out k HF.out HX0.out (fun i hi => HG.out i (by omega))
              clear HG
              go_wp2_with fail
              go_roundw
              case rel => exact ⟨k + 1, by omega, rfl, rfl, rfl, HB, HF2⟩
              case measure => simp only [intOf]; omega
        · have hR := HR1.out k hlt HF.out (by rw [hx]; exact hx0)
          have xb : (x != 0) = true := by simpa [bne] using hx0
          rw [hx] at hR
          obtain ⟨rfl, rfl⟩ : R1 = (k : Int) ∧ R2 = x := by injection hR with h1 h2; exact ⟨h1, h2⟩
          clear hR hx hx0 HR1 HR2 HR3 HN
          go_wp2_with fail
          refine HC.mono ?_
          rintro e w1 ⟨rfl, hb⟩
          have HB1 : Hid (Below W.heap.size W w1) := HB.out.trans (hb.mono HB.out.size)
          clear hb HC HB
          go_wp2_with fail
          go_meet
          case rel => exact ⟨rfl, rfl, HB1⟩
      · have ki : ¬ ((k : Int) < (n : Int)) := by omega
        have hR := HR3.out (fun j hj => HF.out j (by omega))
        obtain ⟨rfl, rfl⟩ : R1 = 0 ∧ R2 = 0 := by injection hR with h1 h2; exact ⟨h1, h2⟩
        clear hR HR1 HR2 HR3 HN
        go_wp2_with fail
        go_meet
        case rel => exact ⟨rfl, rfl, HB⟩
  case rest =>
    obtain ⟨rfl, rfl, HB⟩ := hcut
    go_wp2
    rw [Exit.noGoto_ret]
    go_ret2
    exact ⟨rfl, HB.out⟩

set_option maxRecDepth 100000 in
set_option maxHeartbeats 4000000 in
theorem ck_first3 (W : World) (n : Nat) (hn : n ≤ 1000) (p : Nat) (f : Nat → Int) (g : Nat → Nat → Int)
    (hf : ∀ w (k : Nat), Below W.heap.size W w → k < n → Calls Tryd.prog 68 #[.int .i64 (k : Int)] w fun e w' => e = .returned (.int .i64 (f k)) ∧ Below w.heap.size w w') (hg : ∀ w (j k : Nat), Below W.heap.size W w → j < k → k < n → Calls Tryd.prog 69 #[.int .i64 (j : Int), .int .i64 (k : Int), Ob.ptr p] w fun e w' => e = .returned (.int .i64 (g j k)) ∧ Below w.heap.size w w') :
    Calls Tryd.prog 62 #[.int .i64 (n : Int), .func (.func 68) #[] #[], .func (.func 69) #[] #[Ob.ptr p]] W fun e w' => e = .returned (.tuple #[.int .i64 (Lq.scan (Lq.pr f g) n 0).1, .int .i64 (Lq.scan (Lq.pr f g) n 0).2]) ∧ Below W.heap.size W w' := by
  have HR1 : Hid (∀ k, k < n → (∀ j, j < k → Lq.pr f g j = 0) → f k ≠ 0 → Lq.scan (Lq.pr f g) n 0 = ((k : Int), f k)) := fun k hk h0 h1 => by
    have h2 := Lq.pr_self (g := g) h1
    rw [Lq.scan_some (f := Lq.pr f g) (by rw [h2]; exact h1) (Nat.zero_le _) (by omega) (fun i _ hi => h0 i hi), h2]
  have HR2 : Hid (∀ k j, k < n → j < k → (∀ j, j < k → Lq.pr f g j = 0) → f k = 0 → (∀ i, i < j → g i k = 0) → g j k ≠ 0 → Lq.scan (Lq.pr f g) n 0 = ((k : Int), g j k)) := fun k j hk hj h0 hf0 hi h1 => by
    have h2 := Lq.pr_pair hf0 hi hj h1
    rw [Lq.scan_some (f := Lq.pr f g) (by rw [h2]; exact h1) (Nat.zero_le _) (by omega) (fun i _ hi => h0 i hi), h2]
  have HR3 : Hid ((∀ j, j < n → Lq.pr f g j = 0) → Lq.scan (Lq.pr f g) n 0 = (0, 0)) := fun h => Lq.scan_none (fun j _ hj => h j (by omega))
  have HN : Hid (∀ k, (∀ j, j < k → Lq.pr f g j = 0) → f k = 0 → (∀ i, i < k → g i k = 0) → ∀ j, j < k + 1 → Lq.pr f g j = 0) := fun k h0 h1 h2 => Lq.upto h0 (Lq.pr_none h1 h2)
  have CF : Hid (∀ w (k : Nat) (x : Int), Below W.heap.size W w → k < n → f k = x → Calls Tryd.prog 68 #[.int .i64 (k : Int)] w fun e w' => e = .returned (.int .i64 x) ∧ Below w.heap.size w w') := fun w k x hb hk hx => hx ▸ hf w k hb hk
  have CG : Hid (∀ w (j k : Nat) (x : Int), Below W.heap.size W w → j < k → k < n → g j k = x → Calls Tryd.prog 69 #[.int .i64 (j : Int), .int .i64 (k : Int), Ob.ptr p] w fun e w' => e = .returned (.int .i64 x) ∧ Below w.heap.size w w') := fun w j k x hb hj hk hx => hx ▸ hg w j k hb hj hk
  clear hf hg
  generalize Lq.scan (Lq.pr f g) n 0 = R at HR1 HR2 HR3 ⊢
  generalize Lq.pr f g = P at HR1 HR2 HR3 HN
  obtain ⟨R1, R2⟩ := R
  dsimp only
  go_enter Tryd.func62, Tryd.ntmps62
  go_wp2_with fail
  go_step3
  go_wp2_with fail
  go_step3
  go_upto_block 0 with fail
  go_cut [8, 9, 10, 11] from 12 to 34 (fun v8 v9 _v10 _v11 wx => v8 = .int .i64 R1 ∧ v9 = .int .i64 R2 ∧ Hid (Below W.heap.size W wx))
  case first =>
    go_wp2_with fail
    go_loopw [13, 8, 9, 10, 11] (fun vi v8 v9 _v10 _v11 wr => ∃ k : Nat, k ≤ n ∧ vi = .int .i64 (k : Int) ∧ v8 = .int .i64 0 ∧ v9 = .int .i64 0 ∧ Hid (Below W.heap.size W wr) ∧ Hid (∀ j, j < k → P j = 0)) (fun vi _ _ _ _ _ => n - (intOf vi).toNat)
    case atStart => exact ⟨0, Nat.zero_le _, rfl, rfl, rfl, Below.refl _ _, fun j hj => absurd hj (Nat.not_lt_zero _)⟩
    case round =>
      obtain ⟨k, hk, rfl, rfl, rfl, HB, HF⟩ := hrel
      by_cases hlt : k < n
      · have ki : (k : Int) < (n : Int) := by omega
        have kb : (k : Int) < 1000 := by omega
        obtain ⟨x, hx⟩ : ∃ x, f k = x := ⟨_, rfl⟩
        have HC := CF.out wr k x HB.out hlt hx
        by_cases hx0 : x = 0
        · subst hx0
          have HX0 : Hid (f k = 0) := hx
          clear hx
          go_wp2_with fail
          refine HC.mono ?_
          rintro e w1 ⟨rfl, hb⟩
          have HB1 : Hid (Below W.heap.size W w1) := HB.out.trans (hb.mono HB.out.size)
          clear hb HC HB
          go_wp2_with fail
          go_loopw [23, 8, 9, 11] (fun vi v8 v9 _v11 wr => ∃ j : Nat, j ≤ k ∧ vi = .int .i64 (j : Int) ∧ v8 = .int .i64 0 ∧ v9 = .int .i64 0 ∧ Hid (Below W.heap.size W wr) ∧ Hid (∀ i, i < j → g i k = 0)) (fun vi _ _ _ _ => k - (intOf vi).toNat)
          case atStart => exact ⟨0, Nat.zero_le _, rfl, rfl, rfl, HB1, fun j hj => absurd hj (Nat.not_lt_zero _)⟩
          case round =>
            clear HB1
            obtain ⟨j, hj, rfl, rfl, rfl, HB, HG⟩ := hrel
            by_cases hjk : j < k
            · have ji : (j : Int) < (k : Int) := by omega
              have jb : (j : Int) < 1000 := by omega
              obtain ⟨y, hy⟩ : ∃ y, g j k = y := ⟨_, rfl⟩
              have HC := CG.out _ j k y HB.out hjk hlt hy
              by_cases hy0 : y = 0
              · subst hy0
                have HG2 : Hid (∀ i, i < j + 1 → g i k = 0) := Lq.upto (f := fun i => g i k) HG.out hy
                clear hy HG
                go_wp2_with fail
                refine HC.mono ?_
                rintro e w2 ⟨rfl, hb⟩
                have HB2 : Hid (Below W.heap.size W w2) := HB.out.trans (hb.mono HB.out.size)
                clear hb HC HB
                go_wp2_with fail
                go_roundw
                case rel => exact ⟨j + 1, by omega, rfl, rfl, rfl, HB2, HG2⟩
                case measure => simp only [intOf]; omega
              · have hR := HR2.out k j hlt hjk HF.out HX0.out HG.out (by rw [hy]; exact hy0)
                have yb : (y != 0) = true := by simpa [bne] using hy0
                rw [hy] at hR
                obtain ⟨rfl, rfl⟩ : R1 = (k : Int) ∧ R2 = y := by injection hR with h1 h2; exact ⟨h1, h2⟩
                clear hR hy hy0 HR1 HR2 HR3 HN
                go_wp2_with fail
                refine HC.mono ?_
                rintro e w2 ⟨rfl, hb⟩
                have HB2 : Hid (Below W.heap.size W w2) := HB.out.trans (hb.mono HB.out.size)
                clear hb HC HB
                go_wp2_with fail
                go_meet
                case rel => exact ⟨rfl, rfl, HB2⟩
            · have ji : ¬ ((j : Int) < (k : Int)) := by omega
              have HF2 : Hid (∀ j, j < k + 1 → P j = 0) := HN.out k HF.out HX0.out (fun i hi => HG.out i (by omega))
              clear HG
              go_wp2_with fail
              go_roundw
              case rel => exact ⟨k + 1, by omega, rfl, rfl, rfl, HB, HF2⟩
              case measure => simp only [intOf]; omega
        · have hR := HR1.out k hlt HF.out (by rw [hx]; exact hx0)
          have xb : (x != 0) = true := by simpa [bne] using hx0
          rw [hx] at hR
          obtain ⟨rfl, rfl⟩ : R1 = (k : Int) ∧ R2 = x := by injection hR with h1 h2; exact ⟨h1, h2⟩
          clear hR hx hx0 HR1 HR2 HR3 HN
          go_wp2_with fail
          refine HC.mono ?_
          rintro e w1 ⟨rfl, hb⟩
          have HB1 : Hid (Below W.heap.size W w1) := HB.out.trans (hb.mono HB.out.size)
          clear hb HC HB
          go_wp2_with fail
          go_meet
          case rel => exact ⟨rfl, rfl, HB1⟩
      · have ki : ¬ ((k : Int) < (n : Int)) := by omega
        have hR := HR3.out (fun j hj => HF.out j (by omega))
        obtain ⟨rfl, rfl⟩ : R1 = 0 ∧ R2 = 0 := by injection hR with h1 h2; exact ⟨h1, h2⟩
        clear hR HR1 HR2 HR3 HN
        go_wp2_with fail
        go_meet
        case rel => exact ⟨rfl, rfl, HB⟩
  case rest =>
    obtain ⟨rfl, rfl, HB⟩ := hcut
    go_wp2
    rw [Exit.noGoto_ret]
    go_ret2
    exact ⟨rfl, HB.out⟩

set_option maxRecDepth 100000 in
set_option maxHeartbeats 4000000 in
theorem ck_first4 (W : World) (n : Nat) (hn : n ≤ 1000) (p : Nat) (f : Nat → Int) (g : Nat → Nat → Int)
    (hf : ∀ w (k : Nat), Below W.heap.size W w → k < n → Calls Tryd.prog 70 #[.int .i64 (k : Int), Ob.ptr p] w fun e w' => e = .returned (.int .i64 (f k)) ∧ Below w.heap.size w w') (hg : ∀ w (j k : Nat), Below W.heap.size W w → j < k → k < n → Calls Tryd.prog 71 #[.int .i64 (j : Int), .int .i64 (k : Int), Ob.ptr p] w fun e w' => e = .returned (.int .i64 (g j k)) ∧ Below w.heap.size w w') :
    Calls Tryd.prog 62 #[.int .i64 (n : Int), .func (.func 70) #[] #[Ob.ptr p], .func (.func 71) #[] #[Ob.ptr p]] W fun e w' => e = .returned (.tuple #[.int .i64 (Lq.scan (Lq.pr f g) n 0).1, .int .i64 (Lq.scan (Lq.pr f g) n 0).2]) ∧ Below W.heap.size W w' := by
  have HR1 : Hid (∀ k, k < n → (∀ j, j < k → Lq.pr f g j = 0) → f k ≠ 0 → Lq.scan (Lq.pr f g) n 0 = ((k : Int), f k)) := fun k hk h0 h1 => by
    have h2 := Lq.pr_self (g := g) h1
    rw [Lq.scan_some (f := Lq.pr f g) (by rw [h2]; exact h1) (Nat.zero_le _) (by omega) (fun i _ hi => h0 i hi), h2]
  have HR2 : Hid (∀ k j, k < n → j < k → (∀ j, j < k → Lq.pr f g j = 0) → f k = 0 → (∀ i, i < j → g i k = 0) → g j k ≠ 0 → Lq.scan (Lq.pr f g) n 0 = ((k : Int), g j k)) := fun k j hk hj h0 hf0 hi h1 => by
    have h2 := Lq.pr_pair hf0 hi hj h1
    rw [Lq.scan_some (f := Lq.pr f g) (by rw [h2]; exact h1) (Nat.zero_le _) (by omega) (fun i _ hi => h0 i hi), h2]
  have HR3 : Hid ((∀ j, j < n → Lq.pr f g j = 0) → Lq.scan (Lq.pr f g) n 0 = (0, 0)) := fun h => Lq.scan_none (fun j _ hj => h j (by omega))
  have HN : Hid (∀ k, (∀ j, j < k → Lq.pr f g j = 0) → f k = 0 → (∀ i, i < k → g i k = 0) → ∀ j, j < k + 1 → Lq.pr f g j = 0) := fun k h0 h1 h2 => Lq.upto h0 (Lq.pr_none h1 h2)
  have CF : Hid (∀ w (k : Nat) (x : Int), Below W.heap.size W w → k < n → f k = x → Calls Tryd.prog 70 #[.int .i64 (k : Int), Ob.ptr p] w fun e w' => e = .returned (.int .i64 x) ∧ Below w.heap.size w w') := fun w k x hb hk hx => hx ▸ hf w k hb hk
  have CG : Hid (∀ w (j k : Nat) (x : Int), Below W.heap.size W w → j < k → k < n → g j k = x → Calls Tryd.prog 71 #[.int .i64 (j : Int), .int .i64 (k : Int), Ob.ptr p] w fun e w' => e = .returned (.int .i64 x) ∧ Below w.heap.size w w') := fun w j k x hb hj hk hx => hx ▸ hg w j k hb hj hk
  clear hf hg
  generalize Lq.scan (Lq.pr f g) n 0 = R at HR1 HR2 HR3 ⊢
  generalize Lq.pr f g = P at HR1 HR2 HR3 HN
  obtain ⟨R1, R2⟩ := R
  dsimp only
  go_enter Tryd.func62, Tryd.ntmps62
  go_wp2_with fail
  go_step3
  go_wp2_with fail
  go_step3
  go_upto_block 0 with fail
  go_cut [8, 9, 10, 11] from 12 to 34 (fun v8 v9 _v10 _v11 wx => v8 = .int .i64 R1 ∧ v9 = .int .i64 R2 ∧ Hid (Below W.heap.size W wx))
  case first =>
    go_wp2_with fail
    go_loopw [13, 8, 9, 10, 11] (fun vi v8 v9 _v10 _v11 wr => ∃ k : Nat, k ≤ n ∧ vi = .int .i64 (k : Int) ∧ v8 = .int .i64 0 ∧ v9 = .int .i64 0 ∧ Hid (Below W.heap.size W wr) ∧ Hid (∀ j, j < k → P j = 0)) (fun vi _ _ _ _ _ => n - (intOf vi).toNat)
    case atStart => exact ⟨0, Nat.zero_le _, rfl, rfl, rfl, Below.refl _ _, fun j hj => absurd hj (Nat.not_lt_zero _)⟩
    case round =>
      obtain ⟨k, hk, rfl, rfl, rfl, HB, HF⟩ := hrel
      by_cases hlt : k < n
      · have ki : (k : Int) < (n : Int) := by omega
        have kb : (k : Int) < 1000 := by omega
        obtain ⟨x, hx⟩ : ∃ x, f k = x := ⟨_, rfl⟩
        have HC := CF.out wr k x HB.out hlt hx
        by_cases hx0 : x = 0
        · subst hx0
          have HX0 : Hid (f k = 0) := hx
          clear hx
          go_wp2_with fail
          refine HC.mono ?_
          rintro e w1 ⟨rfl, hb⟩
          have HB1 : Hid (Below W.heap.size W w1) := HB.out.trans (hb.mono HB.out.size)
          clear hb HC HB
          go_wp2_with fail
          go_loopw [23, 8, 9, 11] (fun vi v8 v9 _v11 wr => ∃ j : Nat, j ≤ k ∧ vi = .int .i64 (j : Int) ∧ v8 = .int .i64 0 ∧ v9 = .int .i64 0 ∧ Hid (Below W.heap.size W wr) ∧ Hid (∀ i, i < j → g i k = 0)) (fun vi _ _ _ _ => k - (intOf vi).toNat)
          case atStart => exact ⟨0, Nat.zero_le _, rfl, rfl, rfl, HB1, fun j hj => absurd hj (Nat.not_lt_zero _)⟩
          case round =>
            clear HB1
            obtain ⟨j, hj, rfl, rfl, rfl, HB, HG⟩ := hrel
            by_cases hjk : j < k
            · have ji : (j : Int) < (k : Int) := by omega
              have jb : (j : Int) < 1000 := by omega
              obtain ⟨y, hy⟩ : ∃ y, g j k = y := ⟨_, rfl⟩
              have HC := CG.out _ j k y HB.out hjk hlt hy
              by_cases hy0 : y = 0
              · subst hy0
                have HG2 : Hid (∀ i, i < j + 1 → g i k = 0) := Lq.upto (f := fun i => g i k) HG.out hy
                clear hy HG
                go_wp2_with fail
                refine HC.mono ?_
                rintro e w2 ⟨rfl, hb⟩
                have HB2 : Hid (Below W.heap.size W w2) := HB.out.trans (hb.mono HB.out.size)
                clear hb HC HB
                go_wp2_with fail
                go_roundw
                case rel => exact ⟨j + 1, by omega, rfl, rfl, rfl, HB2, HG2⟩
                case measure => simp only [intOf]; omega
              · have hR := HR2.out k j hlt hjk HF.out HX0.out HG.out (by rw [hy]; exact hy0)
                have yb : (y != 0) = true := by simpa [bne] using hy0
                rw [hy] at hR
                obtain ⟨rfl, rfl⟩ : R1 = (k : Int) ∧ R2 = y := by injection hR with h1 h2; exact ⟨h1, h2⟩
                clear hR hy hy0 HR1 HR2 HR3 HN
                go_wp2_with fail
                refine HC.mono ?_
                rintro e w2 ⟨rfl, hb⟩
                have HB2 : Hid (Below W.heap.size W w2) := HB.out.trans (hb.mono HB.out.size)
                clear hb HC HB
                go_wp2_with fail
                go_meet
                case rel => exact ⟨rfl, rfl, HB2⟩
            · have ji : ¬ ((j : Int) < (k : Int)) := by omega
              have HF2 : Hid (∀ j, j < k + 1 → P j = 0) := HN.out k HF.out HX0.out (fun i hi => HG.out i (by omega))
              clear HG
              go_wp2_with fail
              go_roundw
              case rel => exact ⟨k + 1, by omega, rfl, rfl, rfl, HB, HF2⟩
              case measure => simp only [intOf]; omega
        · have hR := HR1.out k hlt HF.out (by rw [hx]; exact hx0)
          have xb : (x != 0) = true := by simpa [bne] using hx0
          rw [hx] at hR
          obtain ⟨rfl, rfl⟩ : R1 = (k : Int) ∧ R2 = x := by injection hR with h1 h2; exact ⟨h1, h2⟩
          clear hR hx hx0 HR1 HR2 HR3 HN
          go_wp2_with fail
          refine HC.mono ?_
          rintro e w1 ⟨rfl, hb⟩
          have HB1 : Hid (Below W.heap.size W w1) := HB.out.trans (hb.mono HB.out.size)
          clear hb HC HB
          go_wp2_with fail
          go_meet
          case rel => exact ⟨rfl, rfl, HB1⟩
      · have ki : ¬ ((k : Int) < (n : Int)) := by omega
        have hR := HR3.out (fun j hj => HF.out j (by omega))
        obtain ⟨rfl, rfl⟩ : R1 = 0 ∧ R2 = 0 := by injection hR with h1 h2; exact ⟨h1, h2⟩
        clear hR HR1 HR2 HR3 HN
        go_wp2_with fail
        go_meet
        case rel => exact ⟨rfl, rfl, HB⟩
  case rest =>
    obtain ⟨rfl, rfl, HB⟩ := hcut
    go_wp2
    rw [Exit.noGoto_ret]
    go_ret2
    exact ⟨rfl, HB.out⟩

set_option maxRecDepth 100000 in
set_option maxHeartbeats 4000000 in
theorem ck_first5 (W : World) (n : Nat) (hn : n ≤ 1000) (p q : Nat) (f : Nat → Int) (g : Nat → Nat → Int)
    (hf : ∀ w (k : Nat), Below W.heap.size W w → k < n → Calls Tryd.prog 72 #[.int .i64 (k : Int), Ob.ptr p, Ob.ptr q] w fun e w' => e = .returned (.int .i64 (f k)) ∧ Below w.heap.size w w') (hg : ∀ w (j k : Nat), Below W.heap.size W w → j < k → k < n → Calls Tryd.prog 75 #[.int .i64 (j : Int), .int .i64 (k : Int), Ob.ptr p] w fun e w' => e = .returned (.int .i64 (g j k)) ∧ Below w.heap.size w w') :
    Calls Tryd.prog 62 #[.int .i64 (n : Int), .func (.func 72) #[] #[Ob.ptr p, Ob.ptr q], .func (.func 75) #[] #[Ob.ptr p]] W fun e w' => e = .returned (.tuple #[.int .i64 (Lq.scan (Lq.pr f g) n 0).1, .int .i64 (Lq.scan (Lq.pr f g) n 0).2]) ∧ Below W.heap.size W w' := by
  have HR1 : Hid (∀ k, k < n → (∀ j, j < k → Lq.pr f g j = 0) → f k ≠ 0 → Lq.scan (Lq.pr f g) n 0 = ((k : Int), f k)) := fun k hk h0 h1 => by
    have h2 := Lq.pr_self (g := g) h1
    rw [Lq.scan_some (f := Lq.pr f g) (by rw [h2]; exact h1) (Nat.zero_le _) (by omega) (fun i _ hi => h0 i hi), h2]
  have HR2 : Hid (∀ k j, k < n → j < k → (∀ j, j < k → Lq.pr f g j = 0) → f k = 0 → (∀ i, i < j → g i k = 0) → g j k ≠ 0 → Lq.scan (Lq.pr f g) n 0 = ((k : Int), g j k)) := fun k j hk hj h0 hf0 hi h1 => by
    have h2 := Lq.pr_pair hf0 hi hj h1
    rw [Lq.scan_some (f := Lq.pr f g) (by rw [h2]; exact h1) (Nat.zero_le _) (by omega) (fun i _ hi => h0 i hi), h2]
  have HR3 : Hid ((∀ j, j < n → Lq.pr f g j = 0) → Lq.scan (Lq.pr f g) n 0 = (0, 0)) := fun h => Lq.scan_none (fun j _ hj => h j (by omega))
  have HN : Hid (∀ k, (∀ j, j < k → Lq.pr f g j = 0) → f k = 0 → (∀ i, i < k → g i k = 0) → ∀ j, j < k + 1 → Lq.pr f g j = 0) := fun k h0 h1 h2 => Lq.upto h0 (Lq.pr_none h1 h2)
  have CF : Hid (∀ w (k : Nat) (x : Int), Below W.heap.size W w → k < n → f k = x → Calls Tryd.prog 72 #[.int .i64 (k : Int), Ob.ptr p, Ob.ptr q] w fun e w' => e = .returned (.int .i64 x) ∧ Below w.heap.size w w') := fun w k x hb hk hx => hx ▸ hf w k hb hk
  have CG : Hid (∀ w (j k : Nat) (x : Int), Below W.heap.size W w → j < k → k < n → g j k = x → Calls Tryd.prog 75 #[.int .i64 (j : Int), .int .i64 (k : Int), Ob.ptr p] w fun e w' => e = .returned (.int .i64 x) ∧ Below w.heap.size w w') := fun w j k x hb hj hk hx => hx ▸ hg w j k hb hj hk
  clear hf hg
  generalize Lq.scan (Lq.pr f g) n 0 = R at HR1 HR2 HR3 ⊢
  generalize Lq.pr f g = P at HR1 HR2 HR3 HN
  obtain ⟨R1, R2⟩ := R
  dsimp only
  go_enter Tryd.func62, Tryd.ntmps62
  go_wp2_with fail
  go_step3
  go_wp2_with fail
  go_step3
  go_upto_block 0 with fail
  go_cut [8, 9, 10, 11] from 12 to 34 (fun v8 v9 _v10 _v11 wx => v8 = .int .i64 R1 ∧ v9 = .int .i64 R2 ∧ Hid (Below W.heap.size W wx))
  case first =>
    go_wp2_with fail
    go_loopw [13, 8, 9, 10, 11] (fun vi v8 v9 _v10 _v11 wr => ∃ k : Nat, k ≤ n ∧ vi = .int .i64 (k : Int) ∧ v8 = .int .i64 0 ∧ v9 = .int .i64 0 ∧ Hid (Below W.heap.size W wr) ∧ Hid (∀ j, j < k → P j = 0)) (fun vi _ _ _ _ _ => n - (intOf vi).toNat)
    case atStart => exact ⟨0, Nat.zero_le _, rfl, rfl, rfl, Below.refl _ _, fun j hj => absurd hj (Nat.not_lt_zero _)⟩
    case round =>
      obtain ⟨k, hk, rfl, rfl, rfl, HB, HF⟩ := hrel
      by_cases hlt : k < n
      · have ki : (k : Int) < (n : Int) := by omega
        have kb : (k : Int) < 1000 := by omega
        obtain ⟨x, hx⟩ : ∃ x, f k = x := ⟨_, rfl⟩
        have HC := CF.out wr k x HB.out hlt hx
        by_cases hx0 : x = 0
        · subst hx0
          have HX0 : Hid (f k = 0) := hx
          clear hx
          go_wp2_with fail
          refine HC.mono ?_
          rintro e w1 ⟨rfl, hb⟩
          have HB1 : Hid (Below W.heap.size W w1) := HB.out.trans (hb.mono HB.out.size)
          clear hb HC HB
          go_wp2_with fail
          go_loopw [23, 8, 9, 11] (fun vi v8 v9 _v11 wr => ∃ j : Nat, j ≤ k ∧ vi = .int .i64 (j : Int) ∧ v8 = .int .i64 0 ∧ v9 = .int .i64 0 ∧ Hid (Below W.heap.size W wr) ∧ Hid (∀ i, i < j → g i k = 0)) (fun vi _ _ _ _ => k - (intOf vi).toNat)
          case atStart => exact ⟨0, Nat.zero_le _, rfl, rfl, rfl, HB1, fun j hj => absurd hj (Nat.not_lt_zero _)⟩
          case round =>
            clear HB1
            obtain ⟨j, hj, rfl, rfl, rfl, HB, HG⟩ := hrel
            by_cases hjk : j < k
            · have ji : (j : Int) < (k : Int) := by omega
              have jb : (j : Int) < 1000 := by omega
              obtain ⟨y, hy⟩ : ∃ y, g j k = y := ⟨_, rfl⟩
              have HC := CG.out _ j k y HB.out hjk hlt hy
              by_cases hy0 : y = 0
              · subst hy0
                have HG2 : Hid (∀ i, i < j + 1 → g i k = 0) := Lq.upto (f := fun i => g i k) HG.out hy
                clear hy HG
                go_wp2_with fail
                refine HC.mono ?_
                rintro e w2 ⟨rfl, hb⟩
                have HB2 : Hid (Below W.heap.size W w2) := HB.out.trans (hb.mono HB.out.size)
                clear hb HC HB
                go_wp2_with fail
                go_roundw
                case rel => exact ⟨j + 1, by omega, rfl, rfl, rfl, HB2, HG2⟩
                case measure => simp only [intOf]; omega
              · have hR := HR2.out k j hlt hjk HF.out HX0.out HG.out (by rw [hy]; exact hy0)
                have yb : (y != 0) = true := by simpa [bne] using hy0
                rw [hy] at hR
                obtain ⟨rfl, rfl⟩ : R1 = (k : Int) ∧ R2 = y := by injection hR with h1 h2; exact ⟨h1, h2⟩
                clear hR hy hy0 HR1 HR2 HR3 HN
                go_wp2_with fail
                refine HC.mono ?_
                rintro e w2 ⟨rfl, hb⟩
                have HB2 : Hid (Below W.heap.size W w2) := HB.out.trans (hb.mono HB.out.size)
                clear hb HC HB
                go_wp2_with fail
                go_meet
                case rel => exact ⟨rfl, rfl, HB2⟩
            · have ji : ¬ ((j : Int) < (k : Int)) := by omega
              have HF2 : Hid (∀ j, j < k + 1 → P j = 0) := HN.out k HF.out HX0.out (fun i hi => HG.out i (by omega))
              clear HG
              go_wp2_with fail
              go_roundw
              case rel => exact ⟨k + 1, by omega, rfl, rfl, rfl, HB, HF2⟩
              case measure => simp only [intOf]; omega
        · have hR := HR1.out k hlt HF.out (by rw [hx]; exact hx0)
          have xb : (x != 0) = true := by simpa [bne] using hx0
          rw [hx] at hR
          obtain ⟨rfl, rfl⟩ : R1 = (k : Int) ∧ R2 = x := by injection hR with h1 h2; exact ⟨h1, h2⟩
          clear hR hx hx0 HR1 HR2 HR3 HN
          go_wp2_with fail
          refine HC.mono ?_
          rintro e w1 ⟨rfl, hb⟩
          have HB1 : Hid (Below W.heap.size W w1) := HB.out.trans (hb.mono HB.out.size)
          clear hb HC HB
          go_wp2_with fail
          go_meet
          case rel => exact ⟨rfl, rfl, HB1⟩
      · have ki : ¬ ((k : Int) < (n : Int)) := by omega
        have hR := HR3.out (fun j hj => HF.out j (by omega))
        obtain ⟨rfl, rfl⟩ : R1 = 0 ∧ R2 = 0 := by injection hR with h1 h2; exact ⟨h1, h2⟩
        clear hR HR1 HR2 HR3 HN
        go_wp2_with fail
        go_meet
        case rel => exact ⟨rfl, rfl, HB⟩
  case rest =>
    obtain ⟨rfl, rfl, HB⟩ := hcut
    go_wp2
    rw [Exit.noGoto_ret]
    go_ret2
    exact ⟨rfl, HB.out⟩

end Go.Proofs.YtnbfnipdiffphaaDoor
/- Package check, over the landed code: the parts of Check's order, and Check. -/
namespace Go.Proofs.YtnbfnipdiffphaaDoor
open Go.RowKit Go.WideShapes
set_option linter.unusedVariables false
theorem Lq.scan_nothing {f : Nat → Int} {n k : Nat} (h : (Lq.scan f n k).2 = 0) : Lq.scan f n k = (0, 0) := Lq.scan_none (Lq.scan_zero h)
theorem Lq.orElse_assoc (a b c : Int × Int) : Lq.orElse (Lq.orElse a b) c = Lq.orElse a (Lq.orElse b c) := by
  unfold Lq.orElse
  by_cases h : a.2 = 0
  · rw [if_pos h, if_pos h]
  · rw [if_neg h, if_neg h, if_neg h]
theorem Lq.check_ord {m : Mx.M} (hi : Mx.is m = true) (hl : ¬ m.length < Lq.step m) : Lq.check m = Lq.orElse (Lq.scan (Lq.eMaster m) m.masters.length 0) (Lq.orElse (Lq.scan (Lq.eOwner m) m.messages.length 0) (Lq.orElse (Lq.scan (Lq.eRank m) m.masters.length 0) (Lq.orElse (Lq.scan (Lq.eFind m) m.messages.length 0) (Lq.scan (Lq.eWin m) m.windows.length 0)))) := by
  unfold Lq.check Lq.twice
  rw [hi, if_neg (by simp), if_neg hl, Lq.orElse_assoc]

set_option maxRecDepth 100000 in
set_option maxHeartbeats 4000000 in
theorem ck_part1 (w : World) (m : Mx.M) (a : Ma) (hm : MIn w m a) (hi : Mx.is m = true) (R : Int × Int) (hR : Lq.scan (Lq.eMaster m) m.masters.length 0 = R) : Calls Tryd.prog 43 #[mV m a] w fun e w' => e = .returned (.tuple #[.int .i64 R.1, .int .i64 R.2]) ∧ Below w.heap.size w w' := by
  have HX : Hid (Bx w (w.alloc (.cells (mCs m a) 27)) w.heap.size m a) := Bx.mk' hm
  have hl : m.masters.length ≤ 1000 := (Mx.small_is hi).a
  have c8 := HX.out.row.mat.2.2.2.2.2.2.2.2.1
  have he : Lq.scan (Lq.pr (Lq.eMaster m) Lq.none2) m.masters.length 0 = R := (Lq.scan_same (fun j _ hj => Lq.pr_none2 _ j)).trans hR
  have HC := ck_first1 (w.alloc (.cells (mCs m a) 27)) m.masters.length hl w.heap.size (Lq.eMaster m) Lq.none2 (fun w1 k hb hk => ck_eMaster _ _ _ m a k (HX.out.on hb) hi hk) (fun w1 j k hb hj hk => (ck_noPair w1 _ _).mono fun e w' ⟨h1, h2⟩ => by rw [h1, h2]; exact ⟨rfl, Below.refl _ _⟩)
  rw [he] at HC
  have HC2 : Hid (Calls Tryd.prog 62 #[.int .i64 (m.masters.length : Int), .func (.func 63) #[] #[Ob.ptr w.heap.size], .func (.func 66) #[] #[]] (w.alloc (.cells (mCs m a) 27)) fun e w' => e = .returned (.tuple #[.int .i64 R.1, .int .i64 R.2]) ∧ Below (w.alloc (.cells (mCs m a) 27)).heap.size (w.alloc (.cells (mCs m a) 27)) w') := HC
  have HB : Hid (Below w.heap.size w (w.alloc (.cells (mCs m a) 27))) := HX.out.below
  show Calls _ _ #[.agg (mCs m a)] _ _
  generalize mCs m a = cs at HC2 HB c8 ⊢
  clear HX hm hi he hR HC
  generalize m.masters.length = L at *
  obtain ⟨R1, R2⟩ := R
  have hmf : ∀ (fn : Fn) (first cap : Array Value) (w : World), (Instr.makeFunc fn first cap).run Tryd.prog w = .ok (.func fn first cap) w := fun _ _ _ _ => rfl
  go_enter Tryd.func43, Tryd.ntmps43
  go_wp2_with fail
  refine HC2.out.mono ?_
  rintro e w1 ⟨rfl, hb⟩
  have HB1 : Hid (Below w.heap.size w w1) := HB.out.trans (hb.mono HB.out.size)
  clear hb HC2 HB c8
  go_wp2
  go_ret2
  exact ⟨rfl, HB1.out⟩

set_option maxRecDepth 100000 in
set_option maxHeartbeats 4000000 in
theorem ck_part2 (w : World) (m : Mx.M) (a : Ma) (hm : MIn w m a) (hi : Mx.is m = true) (R : Int × Int) (hR : Lq.scan (Lq.eOwner m) m.messages.length 0 = R) : Calls Tryd.prog 44 #[mV m a] w fun e w' => e = .returned (.tuple #[.int .i64 R.1, .int .i64 R.2]) ∧ Below w.heap.size w w' := by
  have HX : Hid (Bx w (w.alloc (.cells (mCs m a) 27)) w.heap.size m a) := Bx.mk' hm
  have hl : m.messages.length ≤ 1000 := (Mx.small_is hi).b
  have c8 := HX.out.row.mat.2.2.2.2.2.2.2.2.2.1
  have he : Lq.scan (Lq.pr (Lq.eOwner m) Lq.none2) m.messages.length 0 = R := (Lq.scan_same (fun j _ hj => Lq.pr_none2 _ j)).trans hR
  have HC := ck_first2 (w.alloc (.cells (mCs m a) 27)) m.messages.length hl w.heap.size (Lq.eOwner m) Lq.none2 (fun w1 k hb hk => ck_eOwner _ _ _ m a k (HX.out.on hb) hi hk) (fun w1 j k hb hj hk => (ck_noPair w1 _ _).mono fun e w' ⟨h1, h2⟩ => by rw [h1, h2]; exact ⟨rfl, Below.refl _ _⟩)
  rw [he] at HC
  have HC2 : Hid (Calls Tryd.prog 62 #[.int .i64 (m.messages.length : Int), .func (.func 67) #[] #[Ob.ptr w.heap.size], .func (.func 66) #[] #[]] (w.alloc (.cells (mCs m a) 27)) fun e w' => e = .returned (.tuple #[.int .i64 R.1, .int .i64 R.2]) ∧ Below (w.alloc (.cells (mCs m a) 27)).heap.size (w.alloc (.cells (mCs m a) 27)) w') := HC
  have HB : Hid (Below w.heap.size w (w.alloc (.cells (mCs m a) 27))) := HX.out.below
  show Calls _ _ #[.agg (mCs m a)] _ _
  generalize mCs m a = cs at HC2 HB c8 ⊢
  clear HX hm hi he hR HC
  generalize m.messages.length = L at *
  obtain ⟨R1, R2⟩ := R
  have hmf : ∀ (fn : Fn) (first cap : Array Value) (w : World), (Instr.makeFunc fn first cap).run Tryd.prog w = .ok (.func fn first cap) w := fun _ _ _ _ => rfl
  go_enter Tryd.func44, Tryd.ntmps44
  go_wp2_with fail
  refine HC2.out.mono ?_
  rintro e w1 ⟨rfl, hb⟩
  have HB1 : Hid (Below w.heap.size w w1) := HB.out.trans (hb.mono HB.out.size)
  clear hb HC2 HB c8
  go_wp2
  go_ret2
  exact ⟨rfl, HB1.out⟩

set_option maxRecDepth 100000 in
set_option maxHeartbeats 4000000 in
theorem ck_part3 (w : World) (m : Mx.M) (a : Ma) (hm : MIn w m a) (hi : Mx.is m = true) (R : Int × Int) (hR : Lq.scan (Lq.eRank m) m.masters.length 0 = R) : Calls Tryd.prog 45 #[mV m a] w fun e w' => e = .returned (.tuple #[.int .i64 R.1, .int .i64 R.2]) ∧ Below w.heap.size w w' := by
  have HX : Hid (Bx w (w.alloc (.cells (mCs m a) 27)) w.heap.size m a) := Bx.mk' hm
  have hl : m.masters.length ≤ 1000 := (Mx.small_is hi).a
  have c8 := HX.out.row.mat.2.2.2.2.2.2.2.2.1
  have he : Lq.scan (Lq.pr (Lq.none1) (fun j k => if Lq.twM m j k then 142 else 0)) m.masters.length 0 = R := (Lq.scan_same (fun j _ hj => Lq.pr_rank (by omega))).trans hR
  have HC := ck_first3 (w.alloc (.cells (mCs m a) 27)) m.masters.length hl w.heap.size (Lq.none1) (fun j k => if Lq.twM m j k then 142 else 0) (fun w1 k hb hk => (ck_noRule w1 _).mono fun e w' ⟨h1, h2⟩ => by rw [h1, h2]; exact ⟨rfl, Below.refl _ _⟩) (fun w1 j k hb hj hk => ck_twM _ _ _ m a j k (HX.out.on hb) hi hj hk)
  rw [he] at HC
  have HC2 : Hid (Calls Tryd.prog 62 #[.int .i64 (m.masters.length : Int), .func (.func 68) #[] #[], .func (.func 69) #[] #[Ob.ptr w.heap.size]] (w.alloc (.cells (mCs m a) 27)) fun e w' => e = .returned (.tuple #[.int .i64 R.1, .int .i64 R.2]) ∧ Below (w.alloc (.cells (mCs m a) 27)).heap.size (w.alloc (.cells (mCs m a) 27)) w') := HC
  have HB : Hid (Below w.heap.size w (w.alloc (.cells (mCs m a) 27))) := HX.out.below
  show Calls _ _ #[.agg (mCs m a)] _ _
  generalize mCs m a = cs at HC2 HB c8 ⊢
  clear HX hm hi he hR HC
  generalize m.masters.length = L at *
  obtain ⟨R1, R2⟩ := R
  have hmf : ∀ (fn : Fn) (first cap : Array Value) (w : World), (Instr.makeFunc fn first cap).run Tryd.prog w = .ok (.func fn first cap) w := fun _ _ _ _ => rfl
  go_enter Tryd.func45, Tryd.ntmps45
  go_wp2_with fail
  refine HC2.out.mono ?_
  rintro e w1 ⟨rfl, hb⟩
  have HB1 : Hid (Below w.heap.size w w1) := HB.out.trans (hb.mono HB.out.size)
  clear hb HC2 HB c8
  go_wp2
  go_ret2
  exact ⟨rfl, HB1.out⟩

set_option maxRecDepth 100000 in
set_option maxHeartbeats 4000000 in
theorem ck_part4 (w : World) (m : Mx.M) (a : Ma) (hm : MIn w m a) (hi : Mx.is m = true) (R : Int × Int) (hR : Lq.scan (Lq.eFind m) m.messages.length 0 = R) : Calls Tryd.prog 46 #[mV m a] w fun e w' => e = .returned (.tuple #[.int .i64 R.1, .int .i64 R.2]) ∧ Below w.heap.size w w' := by
  have HX : Hid (Bx w (w.alloc (.cells (mCs m a) 27)) w.heap.size m a) := Bx.mk' hm
  have hl : m.messages.length ≤ 1000 := (Mx.small_is hi).b
  have c8 := HX.out.row.mat.2.2.2.2.2.2.2.2.2.1
  have he : Lq.scan (Lq.pr (Lq.beatI m) (fun j k => if Lq.twI m j k then 142 else 0)) m.messages.length 0 = R := (Lq.scan_same (fun j _ hj => Lq.pr_find hi (by omega))).trans hR
  have HC := ck_first4 (w.alloc (.cells (mCs m a) 27)) m.messages.length hl w.heap.size (Lq.beatI m) (fun j k => if Lq.twI m j k then 142 else 0) (fun w1 k hb hk => ck_beat _ _ _ m a k (HX.out.on hb) hi hk) (fun w1 j k hb hj hk => ck_twI _ _ _ m a j k (HX.out.on hb) hi hj hk)
  rw [he] at HC
  have HC2 : Hid (Calls Tryd.prog 62 #[.int .i64 (m.messages.length : Int), .func (.func 70) #[] #[Ob.ptr w.heap.size], .func (.func 71) #[] #[Ob.ptr w.heap.size]] (w.alloc (.cells (mCs m a) 27)) fun e w' => e = .returned (.tuple #[.int .i64 R.1, .int .i64 R.2]) ∧ Below (w.alloc (.cells (mCs m a) 27)).heap.size (w.alloc (.cells (mCs m a) 27)) w') := HC
  have HB : Hid (Below w.heap.size w (w.alloc (.cells (mCs m a) 27))) := HX.out.below
  show Calls _ _ #[.agg (mCs m a)] _ _
  generalize mCs m a = cs at HC2 HB c8 ⊢
  clear HX hm hi he hR HC
  generalize m.messages.length = L at *
  obtain ⟨R1, R2⟩ := R
  have hmf : ∀ (fn : Fn) (first cap : Array Value) (w : World), (Instr.makeFunc fn first cap).run Tryd.prog w = .ok (.func fn first cap) w := fun _ _ _ _ => rfl
  go_enter Tryd.func46, Tryd.ntmps46
  go_wp2_with fail
  refine HC2.out.mono ?_
  rintro e w1 ⟨rfl, hb⟩
  have HB1 : Hid (Below w.heap.size w w1) := HB.out.trans (hb.mono HB.out.size)
  clear hb HC2 HB c8
  go_wp2
  go_ret2
  exact ⟨rfl, HB1.out⟩

set_option maxRecDepth 100000 in
set_option maxHeartbeats 4000000 in
theorem ck_part5 (w : World) (hT : Tab w) (m : Mx.M) (a : Ma) (hm : MIn w m a) (hi : Mx.is m = true) (R : Int × Int) (hR : Lq.scan (Lq.eWin m) m.windows.length 0 = R) : Calls Tryd.prog 47 #[mV m a] w fun e w' => e = .returned (.tuple #[.int .i64 R.1, .int .i64 R.2]) ∧ Below w.heap.size w w' := by
  have HX : Hid (Bx w (w.alloc (.cells (mCs m a) 27)) w.heap.size m a) := Bx.mk' hm
  have hl : m.windows.length ≤ 1000 := (Mx.small_is hi).c
  obtain ⟨y0, y1, y2, y3, y4, y5, y6, y7, y8, y9, y10⟩ := HX.out.row.mat
  have HC1 : Hid (Calls Tryd.prog 42 #[mV m a] (w.alloc (.cells (mCs m a) 27)) fun e w' => e = .returned (.int .i64 (Lq.step m)) ∧ Below (w.alloc (.cells (mCs m a) 27)).heap.size (w.alloc (.cells (mCs m a) 27)) w') := ck_step _ (hT.below HX.out.below) m a HX.out.mem (Mx.small_is hi) (Mx.wf_is hi)
  have hmf : ∀ (fn : Fn) (first cap : Array Value) (w : World), (Instr.makeFunc fn first cap).run Tryd.prog w = .ok (.func fn first cap) w := fun _ _ _ _ => rfl
  have HI : Hid (Mx.is m = true) := hi
  have HRe : Hid (Lq.scan (Lq.eWin m) m.windows.length 0 = R) := hR
  clear hR hi hm hT
  show Calls _ _ #[.agg (mCs m a)] _ _
  obtain ⟨R1, R2⟩ := R
  go_enter Tryd.func47, Tryd.ntmps47
  go_wp2_with fail
  refine HC1.out.mono ?_
  rintro e w1 ⟨rfl, hb⟩
  replace HX : Hid (Bx w w1 w.heap.size m a) := HX.out.on hb
  clear hb HC1 y0 y1 y2 y3 y4 y5 y6 y7 y8 y9 y10
  go_upto_region 2 with fail
  have hb0 : Below w1.heap.size w1 (w1.alloc (.cells #[.int .i64 (Lq.step m)] 3)) := (Below.refl _ _).alloc (Nat.le_refl _) _
  have hq : RowT 3 (w1.alloc (.cells #[.int .i64 (Lq.step m)] 3)) w1.heap.size #[.int .i64 (Lq.step m)] := RowT.new _ w1 _
  replace HX : Hid (Bx w (w1.alloc (.cells #[.int .i64 (Lq.step m)] 3)) w.heap.size m a) := HX.out.on hb0
  clear hb0
  generalize w1.alloc (.cells #[.int .i64 (Lq.step m)] 3) = v at HX hq ⊢
  generalize w1.heap.size = q at hq ⊢
  have he : Lq.scan (Lq.pr (Lq.own m) (fun j k => if Lq.meet m (j : Int) (k : Int) then 143 else 0)) m.windows.length 0 = (R1, R2) := (Lq.scan_same (fun j _ hj => Lq.pr_win (by omega))).trans HRe.out
  have HC := ck_first5 v m.windows.length hl w.heap.size q (Lq.own m) (fun j k => if Lq.meet m (j : Int) (k : Int) then 143 else 0) (fun w2 k hb hk => ck_own _ _ _ _ m a k (HX.out.on hb) ((hq.on hb).c 0 _ rfl) (hq.on hb).lt HI.out hk) (fun w2 j k hb hj hk => ck_meets _ _ _ m a j k (HX.out.on hb) HI.out)
  rw [he] at HC
  have HC2 : Hid (Calls Tryd.prog 62 #[.int .i64 (m.windows.length : Int), .func (.func 72) #[] #[Ob.ptr w.heap.size, Ob.ptr q], .func (.func 75) #[] #[Ob.ptr w.heap.size]] v fun e w' => e = .returned (.tuple #[.int .i64 R1, .int .i64 R2]) ∧ Below v.heap.size v w') := HC
  have y10 := HX.out.row.mat.2.2.2.2.2.2.2.2.2.2
  have HB : Hid (Below w.heap.size w v) := HX.out.below
  clear HC he HX HI HRe hq
  go_wp2_with fail
  refine HC2.out.mono ?_
  rintro e w2 ⟨rfl, hb⟩
  have HB1 : Hid (Below w.heap.size w w2) := HB.out.trans (hb.mono HB.out.size)
  clear hb HC2 HB y10
  go_wp2
  go_ret2
  exact ⟨rfl, HB1.out⟩

set_option maxRecDepth 100000 in
set_option maxHeartbeats 4000000 in
theorem ck_check (w : World) (hT : Tab w) (m : Mx.M) (a : Ma) (hm : MIn w m a) (hS : Mx.Small m) (hw : Mx.Wf m) : Calls Tryd.prog 32 #[mV m a] w fun e w' => e = .returned (.tuple #[.int .i64 (Lq.check m).1, .int .i64 (Lq.check m).2]) ∧ Below w.heap.size w w' := by
  have HX : Hid (Bx w (w.alloc (.cells (mCs m a) 27)) w.heap.size m a) := Bx.mk' hm
  obtain ⟨y0, y1, y2, y3, y4, y5, y6, y7, y8, y9, y10⟩ := HX.out.row.mat
  have HTb : Hid (∀ w', Below w.heap.size w w' → Tab w') := fun w' hb => hT.below hb
  have HCi : Hid (Calls Tryd.prog 41 #[mV m a] (w.alloc (.cells (mCs m a) 27)) fun e w' => e = .returned (.bool (Mx.is m)) ∧ Below (w.alloc (.cells (mCs m a) 27)).heap.size (w.alloc (.cells (mCs m a) 27)) w') := mk_is _ (HTb.out _ HX.out.below) m a HX.out.mem hS
  have HCs : Hid (∀ w1, Bx w w1 w.heap.size m a → Calls Tryd.prog 42 #[mV m a] w1 fun e w' => e = .returned (.int .i64 (Lq.step m)) ∧ Below w1.heap.size w1 w') := fun w1 h => ck_step w1 (HTb.out _ h.below) m a h.mem hS hw
  obtain ⟨R, hR⟩ : ∃ R, Lq.check m = R := ⟨_, rfl⟩
  obtain ⟨R1, R2⟩ := R
  rw [hR]
  have HRe : Hid (Lq.check m = (R1, R2)) := hR
  clear hR hm hS hw hT
  show Calls _ _ #[.agg (mCs m a)] _ _
  go_enter Tryd.func32, Tryd.ntmps32
  go_wp2_with fail
  refine HCi.out.mono ?_
  rintro e w1 ⟨rfl, hb⟩
  replace HX : Hid (Bx w w1 w.heap.size m a) := HX.out.on hb
  clear hb HCi y0 y1 y2 y3 y4 y5 y6 y7 y8 y9 y10
  cases hi : Mx.is m
  · obtain ⟨rfl, rfl⟩ : R1 = 0 ∧ R2 = 120 := by
      have h := HRe.out
      unfold Lq.check at h
      rw [hi, if_pos rfl] at h
      injection h with h1 h2
      exact ⟨h1.symm, h2.symm⟩
    go_wp2
    go_ret2
    exact ⟨rfl, HX.out.below⟩
  have HR : Hid (∀ w', Below w1.heap.size w1 w' → RowT 27 w' w.heap.size (mCs m a)) := fun w' hb => (HX.out.on hb).row
  have HC : Hid (∀ w', Below w1.heap.size w1 w' → Calls Tryd.prog 42 #[mV m a] w' fun e w'' => e = .returned (.int .i64 (Lq.step m)) ∧ Below w'.heap.size w' w'') := fun w' hb => HCs.out w' (HX.out.on hb)
  have HI : Hid (Mx.is m = true) := hi
  clear HCs hi
  go_wp2_with fail
  refine Lw.wp_region_quiet_below (by kernel_rfl) (by kernel_rfl) ?_
  repeat (first
    | go_big_quiet_skip
    | (go_big_quiet_want; go_big_quiet_op; go_big_quiet_on)
    | (go_big_quiet_want; go_big_quiet_op; apply Exists.intro; refine ⟨fun _ hb' => ?_, ?_⟩; (first
      | exact Lw.val_rfl _
      | (go_at_call 42; exact Lw.calls_below hb' (HC.out _ hb'))
      | (simp [go_sem, (HR.out _ hb').mat.2.2.2.1]; rfl)
      | (simp [go_sem, (HR.out _ hb').mat.1, (HR.out _ hb').mat.2.1, (HR.out _ hb').mat.2.2.1, (HR.out _ hb').mat.2.2.2.1, (HR.out _ hb').mat.2.2.2.2.1, (HR.out _ hb').mat.2.2.2.2.2.1, (HR.out _ hb').mat.2.2.2.2.2.2.1, (HR.out _ hb').mat.2.2.2.2.2.2.2.1, (HR.out _ hb').mat.2.2.2.2.2.2.2.2.1, (HR.out _ hb').mat.2.2.2.2.2.2.2.2.2.1, (HR.out _ hb').mat.2.2.2.2.2.2.2.2.2.2]; rfl)); go_big_quiet_on))
  refine wpQuiet_nil ?_
  intro w2 hb
  replace HX : Hid (Bx w w2 w.heap.size m a) := HX.out.on hb
  clear hb HR HC
  by_cases hl : m.length < Lq.step m
  · obtain ⟨rfl, rfl⟩ : R1 = 0 ∧ R2 = 140 := by
      have h := HRe.out
      unfold Lq.check at h
      rw [HI.out, if_neg (by simp), if_pos hl] at h
      injection h with h1 h2
      exact ⟨h1.symm, h2.symm⟩
    go_wp2
    go_ret2
    exact ⟨rfl, HX.out.below⟩
  have hl' : Lq.step m ≤ m.length := by omega
  have HRo : Hid ((R1, R2) = Lq.orElse (Lq.scan (Lq.eMaster m) m.masters.length 0) (Lq.orElse (Lq.scan (Lq.eOwner m) m.messages.length 0) (Lq.orElse (Lq.scan (Lq.eRank m) m.masters.length 0) (Lq.orElse (Lq.scan (Lq.eFind m) m.messages.length 0) (Lq.scan (Lq.eWin m) m.windows.length 0))))) := HRe.out.symm.trans (Lq.check_ord HI.out hl)
  clear HRe
  obtain ⟨s1, h1⟩ : ∃ s, Lq.scan (Lq.eMaster m) m.masters.length 0 = s := ⟨_, rfl⟩
  obtain ⟨s2, h2⟩ : ∃ s, Lq.scan (Lq.eOwner m) m.messages.length 0 = s := ⟨_, rfl⟩
  obtain ⟨s3, h3⟩ : ∃ s, Lq.scan (Lq.eRank m) m.masters.length 0 = s := ⟨_, rfl⟩
  obtain ⟨s4, h4⟩ : ∃ s, Lq.scan (Lq.eFind m) m.messages.length 0 = s := ⟨_, rfl⟩
  obtain ⟨s5, h5⟩ : ∃ s, Lq.scan (Lq.eWin m) m.windows.length 0 = s := ⟨_, rfl⟩
  have P1 : Hid (∀ w1, Bx w w1 w.heap.size m a → Calls Tryd.prog 43 #[mV m a] w1 fun e w' => e = .returned (.tuple #[.int .i64 s1.1, .int .i64 s1.2]) ∧ Below w1.heap.size w1 w') := fun w1 h => ck_part1 w1 m a h.mem HI.out s1 h1
  have P2 : Hid (∀ w1, Bx w w1 w.heap.size m a → Calls Tryd.prog 44 #[mV m a] w1 fun e w' => e = .returned (.tuple #[.int .i64 s2.1, .int .i64 s2.2]) ∧ Below w1.heap.size w1 w') := fun w1 h => ck_part2 w1 m a h.mem HI.out s2 h2
  have P3 : Hid (∀ w1, Bx w w1 w.heap.size m a → Calls Tryd.prog 45 #[mV m a] w1 fun e w' => e = .returned (.tuple #[.int .i64 s3.1, .int .i64 s3.2]) ∧ Below w1.heap.size w1 w') := fun w1 h => ck_part3 w1 m a h.mem HI.out s3 h3
  have P4 : Hid (∀ w1, Bx w w1 w.heap.size m a → Calls Tryd.prog 46 #[mV m a] w1 fun e w' => e = .returned (.tuple #[.int .i64 s4.1, .int .i64 s4.2]) ∧ Below w1.heap.size w1 w') := fun w1 h => ck_part4 w1 m a h.mem HI.out s4 h4
  have P5 : Hid (∀ w1, Bx w w1 w.heap.size m a → Calls Tryd.prog 47 #[mV m a] w1 fun e w' => e = .returned (.tuple #[.int .i64 s5.1, .int .i64 s5.2]) ∧ Below w1.heap.size w1 w') := fun w1 h => ck_part5 w1 (HTb.out _ h.below) m a h.mem HI.out s5 h5
  rw [h1, h2, h3, h4, h5] at HRo
  have HZ : Hid (s5.2 = 0 → s5 = (0, 0)) := fun h => by rw [← h5] at h ⊢; exact Lq.scan_nothing h
  clear h1 h2 h3 h4 h5 HI HTb hl
  obtain ⟨a1, b1⟩ := s1
  obtain ⟨a2, b2⟩ := s2
  obtain ⟨a3, b3⟩ := s3
  obtain ⟨a4, b4⟩ := s4
  obtain ⟨a5, b5⟩ := s5
  have hb0 : Below w2.heap.size w2 (w2.alloc (.cells #[.func (.func 43) #[] #[], .func (.func 44) #[] #[], .func (.func 45) #[] #[], .func (.func 46) #[] #[], .func (.func 47) #[] #[]] 67)) := (Below.refl _ _).alloc (Nat.le_refl _) _
  have hq : RowT 67 (w2.alloc (.cells #[.func (.func 43) #[] #[], .func (.func 44) #[] #[], .func (.func 45) #[] #[], .func (.func 46) #[] #[], .func (.func 47) #[] #[]] 67)) w2.heap.size #[.func (.func 43) #[] #[], .func (.func 44) #[] #[], .func (.func 45) #[] #[], .func (.func 46) #[] #[], .func (.func 47) #[] #[]] := RowT.new _ w2 _
  replace HX : Hid (Bx w (w2.alloc (.cells #[.func (.func 43) #[] #[], .func (.func 44) #[] #[], .func (.func 45) #[] #[], .func (.func 46) #[] #[], .func (.func 47) #[] #[]] 67)) w.heap.size m a) := HX.out.on hb0
  clear hb0
  go_upto_block 0 with fail
  generalize (w2.alloc (.cells #[.func (.func 43) #[] #[], .func (.func 44) #[] #[], .func (.func 45) #[] #[], .func (.func 46) #[] #[], .func (.func 47) #[] #[]] 67)) = v at HX hq ⊢
  generalize w2.heap.size = q at hq ⊢
  have HQ : Hid (RowT 67 v q #[.func (.func 43) #[] #[], .func (.func 44) #[] #[], .func (.func 45) #[] #[], .func (.func 46) #[] #[], .func (.func 47) #[] #[]]) := hq
  clear hq hl'
  go_wp2_with fail
  go_loopw [18, 5, 6, 7] (fun vi _ _ _ wr => (vi = .int .i64 0 ∧ Hid (Below v.heap.size v wr)) ∨ (vi = .int .i64 1 ∧ Hid (Below v.heap.size v wr) ∧ Hid (b1 = 0)) ∨ (vi = .int .i64 2 ∧ Hid (Below v.heap.size v wr) ∧ Hid (b1 = 0) ∧ Hid (b2 = 0)) ∨ (vi = .int .i64 3 ∧ Hid (Below v.heap.size v wr) ∧ Hid (b1 = 0) ∧ Hid (b2 = 0) ∧ Hid (b3 = 0)) ∨ (vi = .int .i64 4 ∧ Hid (Below v.heap.size v wr) ∧ Hid (b1 = 0) ∧ Hid (b2 = 0) ∧ Hid (b3 = 0) ∧ Hid (b4 = 0)) ∨ (vi = .int .i64 5 ∧ Hid (Below v.heap.size v wr) ∧ Hid (b1 = 0) ∧ Hid (b2 = 0) ∧ Hid (b3 = 0) ∧ Hid (b4 = 0) ∧ Hid (b5 = 0))) (fun vi _ _ _ _ => 5 - (intOf vi).toNat)
  case atStart => exact Or.inl ⟨rfl, Below.refl _ _⟩
  case round =>
    rcases hrel with ⟨rfl, HV⟩ | ⟨rfl, HV, Z1⟩ | ⟨rfl, HV, Z1, Z2⟩ | ⟨rfl, HV, Z1, Z2, Z3⟩ | ⟨rfl, HV, Z1, Z2, Z3, Z4⟩ | ⟨rfl, HV, Z1, Z2, Z3, Z4, Z5⟩
    · have HXr : Hid (Bx w wr w.heap.size m a) := HX.out.on HV.out
      obtain ⟨y0, y1, y2, y3, y4, y5, y6, y7, y8, y9, y10⟩ := HXr.out.row.mat
      have c0 : wr.cell? ⟨q, 0, none⟩ = some (.func (.func 43) #[] #[]) := (HQ.out.on HV.out).c 0 _ rfl
      have HC := P1.out wr HXr.out
      by_cases hz : b1 = 0
      · have zb : (b1 != 0) = false := by rw [hz]; rfl
        have ZN : Hid (b1 = 0) := hz
        clear hz
        go_wp2_with fail
        refine HC.mono ?_
        rintro e w3 ⟨rfl, hb⟩
        have HV2 : Hid (Below v.heap.size v w3) := HV.out.trans (hb.mono HV.out.size)
        clear hb HC HXr y0 y1 y2 y3 y4 y5 y6 y7 y8 y9 y10 c0
        go_wp2_with fail
        go_roundw
        case rel => exact Or.inr (Or.inl (⟨rfl, HV2, ZN⟩))
        case measure => simp only [intOf]; omega
      · obtain ⟨rfl, rfl⟩ : a1 = R1 ∧ b1 = R2 := by
          have h := HRo.out
          rw [Lq.orElse_some (a := (a1, b1)) hz] at h
          injection h with h1 h2
          exact ⟨h1.symm, h2.symm⟩
        have zb : (b1 != 0) = true := by simpa [bne] using hz
        clear hz
        go_wp2_with fail
        refine HC.mono ?_
        rintro e w3 ⟨rfl, hb⟩
        have HXs : Hid (Bx w w3 w.heap.size m a) := HXr.out.on hb
        clear hb HC HXr y0 y1 y2 y3 y4 y5 y6 y7 y8 y9 y10 c0
        go_wp2
        go_ret2
        exact ⟨rfl, HXs.out.below⟩
    · have HXr : Hid (Bx w wr w.heap.size m a) := HX.out.on HV.out
      obtain ⟨y0, y1, y2, y3, y4, y5, y6, y7, y8, y9, y10⟩ := HXr.out.row.mat
      have c0 : wr.cell? ⟨q, 1, none⟩ = some (.func (.func 44) #[] #[]) := (HQ.out.on HV.out).c 1 _ rfl
      have HC := P2.out wr HXr.out
      by_cases hz : b2 = 0
      · have zb : (b2 != 0) = false := by rw [hz]; rfl
        have ZN : Hid (b2 = 0) := hz
        clear hz
        go_wp2_with fail
        refine HC.mono ?_
        rintro e w3 ⟨rfl, hb⟩
        have HV2 : Hid (Below v.heap.size v w3) := HV.out.trans (hb.mono HV.out.size)
        clear hb HC HXr y0 y1 y2 y3 y4 y5 y6 y7 y8 y9 y10 c0
        go_wp2_with fail
        go_roundw
        case rel => exact Or.inr (Or.inr (Or.inl (⟨rfl, HV2, Z1, ZN⟩)))
        case measure => simp only [intOf]; omega
      · obtain ⟨rfl, rfl⟩ : a2 = R1 ∧ b2 = R2 := by
          have h := HRo.out
          rw [Lq.orElse_zero (a := (a1, b1)) Z1.out, Lq.orElse_some (a := (a2, b2)) hz] at h
          injection h with h1 h2
          exact ⟨h1.symm, h2.symm⟩
        have zb : (b2 != 0) = true := by simpa [bne] using hz
        clear hz
        go_wp2_with fail
        refine HC.mono ?_
        rintro e w3 ⟨rfl, hb⟩
        have HXs : Hid (Bx w w3 w.heap.size m a) := HXr.out.on hb
        clear hb HC HXr y0 y1 y2 y3 y4 y5 y6 y7 y8 y9 y10 c0
        go_wp2
        go_ret2
        exact ⟨rfl, HXs.out.below⟩
    · have HXr : Hid (Bx w wr w.heap.size m a) := HX.out.on HV.out
      obtain ⟨y0, y1, y2, y3, y4, y5, y6, y7, y8, y9, y10⟩ := HXr.out.row.mat
      have c0 : wr.cell? ⟨q, 2, none⟩ = some (.func (.func 45) #[] #[]) := (HQ.out.on HV.out).c 2 _ rfl
      have HC := P3.out wr HXr.out
      by_cases hz : b3 = 0
      · have zb : (b3 != 0) = false := by rw [hz]; rfl
        have ZN : Hid (b3 = 0) := hz
        clear hz
        go_wp2_with fail
        refine HC.mono ?_
        rintro e w3 ⟨rfl, hb⟩
        have HV2 : Hid (Below v.heap.size v w3) := HV.out.trans (hb.mono HV.out.size)
        clear hb HC HXr y0 y1 y2 y3 y4 y5 y6 y7 y8 y9 y10 c0
        go_wp2_with fail
        go_roundw
        case rel => exact Or.inr (Or.inr (Or.inr (Or.inl (⟨rfl, HV2, Z1, Z2, ZN⟩))))
        case measure => simp only [intOf]; omega
      · obtain ⟨rfl, rfl⟩ : a3 = R1 ∧ b3 = R2 := by
          have h := HRo.out
          rw [Lq.orElse_zero (a := (a1, b1)) Z1.out, Lq.orElse_zero (a := (a2, b2)) Z2.out, Lq.orElse_some (a := (a3, b3)) hz] at h
          injection h with h1 h2
          exact ⟨h1.symm, h2.symm⟩
        have zb : (b3 != 0) = true := by simpa [bne] using hz
        clear hz
        go_wp2_with fail
        refine HC.mono ?_
        rintro e w3 ⟨rfl, hb⟩
        have HXs : Hid (Bx w w3 w.heap.size m a) := HXr.out.on hb
        clear hb HC HXr y0 y1 y2 y3 y4 y5 y6 y7 y8 y9 y10 c0
        go_wp2
        go_ret2
        exact ⟨rfl, HXs.out.below⟩
    · have HXr : Hid (Bx w wr w.heap.size m a) := HX.out.on HV.out
      obtain ⟨y0, y1, y2, y3, y4, y5, y6, y7, y8, y9, y10⟩ := HXr.out.row.mat
      have c0 : wr.cell? ⟨q, 3, none⟩ = some (.func (.func 46) #[] #[]) := (HQ.out.on HV.out).c 3 _ rfl
      have HC := P4.out wr HXr.out
      by_cases hz : b4 = 0
      · have zb : (b4 != 0) = false := by rw [hz]; rfl
        have ZN : Hid (b4 = 0) := hz
        clear hz
        go_wp2_with fail
        refine HC.mono ?_
        rintro e w3 ⟨rfl, hb⟩
        have HV2 : Hid (Below v.heap.size v w3) := HV.out.trans (hb.mono HV.out.size)
        clear hb HC HXr y0 y1 y2 y3 y4 y5 y6 y7 y8 y9 y10 c0
        go_wp2_with fail
        go_roundw
        case rel => exact Or.inr (Or.inr (Or.inr (Or.inr (Or.inl (⟨rfl, HV2, Z1, Z2, Z3, ZN⟩)))))
        case measure => simp only [intOf]; omega
      · obtain ⟨rfl, rfl⟩ : a4 = R1 ∧ b4 = R2 := by
          have h := HRo.out
          rw [Lq.orElse_zero (a := (a1, b1)) Z1.out, Lq.orElse_zero (a := (a2, b2)) Z2.out, Lq.orElse_zero (a := (a3, b3)) Z3.out, Lq.orElse_some (a := (a4, b4)) hz] at h
          injection h with h1 h2
          exact ⟨h1.symm, h2.symm⟩
        have zb : (b4 != 0) = true := by simpa [bne] using hz
        clear hz
        go_wp2_with fail
        refine HC.mono ?_
        rintro e w3 ⟨rfl, hb⟩
        have HXs : Hid (Bx w w3 w.heap.size m a) := HXr.out.on hb
        clear hb HC HXr y0 y1 y2 y3 y4 y5 y6 y7 y8 y9 y10 c0
        go_wp2
        go_ret2
        exact ⟨rfl, HXs.out.below⟩
    · have HXr : Hid (Bx w wr w.heap.size m a) := HX.out.on HV.out
      obtain ⟨y0, y1, y2, y3, y4, y5, y6, y7, y8, y9, y10⟩ := HXr.out.row.mat
      have c0 : wr.cell? ⟨q, 4, none⟩ = some (.func (.func 47) #[] #[]) := (HQ.out.on HV.out).c 4 _ rfl
      have HC := P5.out wr HXr.out
      by_cases hz : b5 = 0
      · have zb : (b5 != 0) = false := by rw [hz]; rfl
        have ZN : Hid (b5 = 0) := hz
        clear hz
        go_wp2_with fail
        refine HC.mono ?_
        rintro e w3 ⟨rfl, hb⟩
        have HV2 : Hid (Below v.heap.size v w3) := HV.out.trans (hb.mono HV.out.size)
        clear hb HC HXr y0 y1 y2 y3 y4 y5 y6 y7 y8 y9 y10 c0
        go_wp2_with fail
        go_roundw
        case rel => exact Or.inr (Or.inr (Or.inr (Or.inr (Or.inr ((⟨rfl, HV2, Z1, Z2, Z3, Z4, ZN⟩))))))
        case measure => simp only [intOf]; omega
      · obtain ⟨rfl, rfl⟩ : a5 = R1 ∧ b5 = R2 := by
          have h := HRo.out
          rw [Lq.orElse_zero (a := (a1, b1)) Z1.out, Lq.orElse_zero (a := (a2, b2)) Z2.out, Lq.orElse_zero (a := (a3, b3)) Z3.out, Lq.orElse_zero (a := (a4, b4)) Z4.out] at h
          injection h with h1 h2
          exact ⟨h1.symm, h2.symm⟩
        have zb : (b5 != 0) = true := by simpa [bne] using hz
        clear hz
        go_wp2_with fail
        refine HC.mono ?_
        rintro e w3 ⟨rfl, hb⟩
        have HXs : Hid (Bx w w3 w.heap.size m a) := HXr.out.on hb
        clear hb HC HXr y0 y1 y2 y3 y4 y5 y6 y7 y8 y9 y10 c0
        go_wp2
        go_ret2
        exact ⟨rfl, HXs.out.below⟩
    · have HXr : Hid (Bx w wr w.heap.size m a) := HX.out.on HV.out
      obtain ⟨rfl, rfl⟩ : R1 = 0 ∧ R2 = 0 := by
        have h := HRo.out
        rw [Lq.orElse_zero (a := (a1, b1)) Z1.out, Lq.orElse_zero (a := (a2, b2)) Z2.out, Lq.orElse_zero (a := (a3, b3)) Z3.out, Lq.orElse_zero (a := (a4, b4)) Z4.out, HZ.out Z5.out] at h
        injection h with h1 h2
        exact ⟨h1, h2⟩
      go_wp2
      go_ret2
      exact ⟨rfl, HXr.out.below⟩

end Go.Proofs.YtnbfnipdiffphaaDoor
