/- Layer 14: the document's Units, Step. -/
import Derived.Test.YtnbfnipdiffphaaDoorBc
import Derived.Test.YtnbfnipdiffphaaDoorLq
import Derived.Test.YtnbfnipdiffphaaDoorB2
import Derived.Deep.RegionHeld3
import Derived.Deep.CutBlock
import Derived.WalkArith
import Derived.WalkSpells
import Derived.Test.YtnbfnipdiffphaaDoorHl
namespace Go.Proofs.YtnbfnipdiffphaaDoor
open Go.RowKit Go.WideShapes
set_option linter.unusedVariables false
theorem Mx.unit_wf {m : Mx.M} (h : Mx.Wf m) : -9223372036854775808 ≤ m.unit ∧ m.unit ≤ 9223372036854775807 := bounds_i64 h.unit
theorem Lq.units_bound {u b : Int} : 0 ≤ Lq.units u b ∧ Lq.units u b ≤ 4002 := by
  unfold Lq.units
  have h1 : 0 ≤ 4 * max 0 (min b 1000) ∧ 4 * max 0 (min b 1000) ≤ 4000 := by omega
  have h2 : 1 ≤ max 1 u := by omega
  generalize 4 * max 0 (min b 1000) = n at *
  generalize max 1 u = k at *
  have h3 : 0 ≤ n / k := Int.ediv_nonneg h1.1 (by omega)
  have h4 : n / k ≤ n := Int.ediv_le_self _ h1.1
  split <;> omega
set_option maxRecDepth 100000 in
set_option maxHeartbeats 4000000 in
theorem runits_any (w : World) (m : Mx.M) (a : Ma) (bits : Int) (hm : MIn w m a) (hu : (Lit.int .i64 m.unit).wf = true) : Calls Tryd.prog 35 #[mV m a, .int .i64 bits] w fun e w' => e = .returned (.int .i64 (Lq.units m.unit bits)) ∧ Below w.heap.size w w' := by
  have HX : Hid (Bx w (w.alloc (.cells (mCs m a) 27)) w.heap.size m a) := Bx.mk' hm
  obtain ⟨_, _, _, _, _, x5, _⟩ := HX.out.row.mat
  have hub := bounds_i64 hu
  show Calls _ _ #[.agg (mCs m a), _] _ _
  generalize mCs m a = cs at HX x5 ⊢
  clear hm hu
  unfold Lq.units
  obtain ⟨U, hU⟩ : ∃ U : Nat, max 1 m.unit = (U : Int) := Int.eq_ofNat_of_zero_le (by omega)
  obtain ⟨b1, hb1⟩ : ∃ b1, min bits 1000 = b1 := ⟨_, rfl⟩
  obtain ⟨B, hB⟩ : ∃ B : Nat, max 0 b1 = (B : Int) := Int.eq_ofNat_of_zero_le (by omega)
  have hU1 : 1 ≤ U := by omega
  have hUi : (U : Int) ≤ 9223372036854775807 := by omega
  have hB1 : (B : Int) ≤ 1000 := by omega
  rw [hU, hb1, hB]
  generalize m.unit = mu at *
  obtain ⟨q, hq⟩ : ∃ q : Nat, (4 * B) / U = q := ⟨_, rfl⟩
  obtain ⟨r, hr⟩ : ∃ r : Nat, (4 * B) % U = r := ⟨_, rfl⟩
  have e1 : (4 * (B : Int)).tdiv (U : Int) = (q : Int) := by rw [Int.tdiv_eq_ediv_of_nonneg (by omega), ← hq]; simp
  have e2 : (4 * (B : Int)).tmod (U : Int) = (r : Int) := by rw [Int.tmod_eq_emod_of_nonneg (by omega), ← hr]; simp
  have e3 : 4 * (B : Int) / (U : Int) = (q : Int) := by rw [← hq]; simp
  have e4 : 4 * (B : Int) % (U : Int) = (r : Int) := by rw [← hr]; simp
  have hq1 : (q : Int) ≤ 4000 := by
    have : q ≤ 4 * B := by rw [← hq]; exact Nat.div_le_self _ _
    omega
  have u0 : ¬ ((U : Int) = 0) := by omega
  have u1 : ¬ (U = 0) := by omega
  rw [e3, e4]
  clear hq hr hub hU1
  by_cases hr0 : r = 0
  · subst hr0
    go_enter Tryd.func35, Tryd.ntmps35
    go_wp2
    go_ret
    exact ⟨by simp, HX.out.below⟩
  · have r0 : ¬ ((r : Int) = 0) := by omega
    have r1 : ((r : Int) != 0) = true := by simpa [bne] using hr0
    go_enter Tryd.func35, Tryd.ntmps35
    go_wp2
    go_ret
    exact ⟨by first | rfl | simp, HX.out.below⟩
set_option maxRecDepth 100000 in
set_option maxHeartbeats 4000000 in
theorem rstep_any (w : World) (m : Mx.M) (a : Ma) (hm : MIn w m a) (hS : Mx.Small m) (hw : Mx.Wf m) : Calls Tryd.prog 22 #[mV m a] w fun e w' => e = .returned (.int .i64 (Lq.step m)) ∧ Below w.heap.size w w' := by
  have HX : Hid (Bx w (w.alloc (.cells (mCs m a) 27)) w.heap.size m a) := Bx.mk' hm
  obtain ⟨y0, y1, y2, y3, y4, y5, y6, y7, y8, y9, y10⟩ := HX.out.row.mat
  have HS : Hid (Mx.Small m) := hS
  have HU : Hid ((Lit.int .i64 m.unit).wf = true) := hw.unit
  obtain ⟨V, hV⟩ : ∃ V, Lq.step m = V := ⟨_, rfl⟩
  rw [hV]
  unfold Lq.step at hV
  go_enter Tryd.func22, Tryd.ntmps22
  go_wp2_with fail
  refine (ris_any _ m a HX.out.mem HS.out).mono ?_
  rintro e w1 ⟨rfl, hb⟩
  replace HX : Hid (Bx w w1 w.heap.size m a) := HX.out.on hb
  clear y0 y1 y2 y3 y4 y5 y6 y7 y8 y9 y10 hb hm
  cases hi : Mx.is m
  · rw [hi, if_neg (by simp)] at hV
    subst hV
    go_wp2
    go_ret
    exact ⟨rfl, HX.out.below⟩
  · rw [hi, if_pos rfl] at hV
    have hen : 1 ≤ m.enable ∧ m.enable ≤ 16 := by
      unfold Mx.is Mx.scal at hi
      simp only [Bool.and_eq_true, Pq.within_iff] at hi
      omega
    have hub := Lq.units_bound (u := m.unit) (b := 140)
    have HR : Hid (∀ w', Below w1.heap.size w1 w' → RowT 27 w' w.heap.size (mCs m a)) := fun w' hb => (HX.out.on hb).row
    have HC : Hid (∀ w', Below w1.heap.size w1 w' → Calls Tryd.prog 35 #[mV m a, .int .i64 140] w' fun e w'' => e = .returned (.int .i64 (Lq.units m.unit 140)) ∧ Below w'.heap.size w' w'') := fun w' hb => runits_any w' m a 140 (HX.out.on hb).mem HU.out
    have HB : Hid (Below w.heap.size w w1) := HX.out.below
    clear HX hi
    generalize Lq.units m.unit 140 = V0 at *
    subst hV
    obtain ⟨h1, h2⟩ := hen
    obtain ⟨h3, h4⟩ := hub
    go_wp2_with fail
    refine Lw.wp_region_quiet_below (by kernel_rfl) (by kernel_rfl) ?_
    repeat (first
      | go_big_quiet_skip
      | (go_big_quiet_want; go_big_quiet_op; go_big_quiet_on)
      | (go_big_quiet_want; go_big_quiet_op; apply Exists.intro; refine ⟨fun _ hb' => ?_, ?_⟩; (first
        | exact Lw.val_rfl _
        | (go_at_call 35; exact Lw.calls_below hb' (HC.out _ hb'))
        | (simp [go_sem, (HR.out _ hb').mat.2.2.2.2.1]; rfl)
        | (simp [go_sem, (HR.out _ hb').mat.1, (HR.out _ hb').mat.2.1, (HR.out _ hb').mat.2.2.1, (HR.out _ hb').mat.2.2.2.1, (HR.out _ hb').mat.2.2.2.2.1, (HR.out _ hb').mat.2.2.2.2.2.1, (HR.out _ hb').mat.2.2.2.2.2.2.1, (HR.out _ hb').mat.2.2.2.2.2.2.2.1, (HR.out _ hb').mat.2.2.2.2.2.2.2.2.1, (HR.out _ hb').mat.2.2.2.2.2.2.2.2.2.1, (HR.out _ hb').mat.2.2.2.2.2.2.2.2.2.2]; rfl)); go_big_quiet_on))
    refine wpQuiet_nil ?_
    intro wz hbz
    have HBz : Hid (Below w.heap.size w wz) := HB.out.trans (hbz.mono HB.out.size)
    clear hbz
    go_wp2
    go_ret
    exact ⟨rfl, HBz.out⟩
end Go.Proofs.YtnbfnipdiffphaaDoor
/- Layer 14: the document's Meet. -/
namespace Go.Proofs.YtnbfnipdiffphaaDoor
open Go.RowKit Go.WideShapes
set_option linter.unusedVariables false
theorem Hl.step_store_row {P : Program} {ops : Array Oper} {o : Oper} {a : Act} {w : World} {K : Act → World → Prop} {Q : Exit → Act → World → Prop} {X : Prop} (hgd : o.guard = none) (ty : TypeId) (x y : Operand) (ho : o.op = .store ty x y)
    (g : Nat) (cells : Array Value) (hx : a.eval x = .pointer (some ⟨g, 0, none⟩)) (hy : a.eval y = .agg cells) (t : TypeId) (old : Array Value) (hg : w.heap[g]? = some (.cells old t (0, 0))) (hi : (P.info? ty).map (·.size) = some cells.size)
    (hold : old.size = cells.size) (h1 : cells.all (·.oneCell') = true) (h : K (a.put o.dst undef) (w.setRow g cells)) : if Region.wanted o (yielded ops a.tmps) = true then Oper.wp P o a w K Q else X := by
  have hw : Region.wanted o (yielded ops a.tmps) = true := by simp [Region.wanted, hgd]
  rw [if_pos hw]
  exact wp_store_row ty x y ho g cells hx hy t old hg hi hold h1 h
theorem winfo14 : (Tryd.prog.info? 58).map (·.size) = some 6 := by kernel_rfl
theorem mc3_one (x : Mx.Win) : (mC3 x).toArray.all (·.oneCell') = true := by simp [mC3, Value.oneCell']
theorem Lq.upto_b {f : Nat → Bool} {k : Nat} (h : ∀ j, j < k → f j = false) (hk : f k = false) : ∀ j, j < k + 1 → f j = false := fun j hj => by
  rcases Nat.lt_or_eq_of_le (Nat.le_of_lt_succ hj) with h1 | h1
  · exact h j h1
  · rw [h1]; exact hk
theorem Lq.any_none {f : Nat → Bool} {n : Nat} (h : ∀ c, c < n → f c = false) : (List.range n).any f = false := by
  rw [List.any_eq_false]
  intro c hc
  rw [h c (List.mem_range.1 hc)]
  simp
theorem Lq.getW_none {m : Mx.M} {i : Int} (h : Mx.within i 0 ((m.windows.length : Int) - 1) = false) : Lq.getW m i = none := by
  unfold Lq.getW
  split
  · refine List.getElem?_eq_none ?_
    unfold Mx.within at h
    simp at h
    omega
  · rfl
theorem Lq.getW_some {m : Mx.M} {i : Int} (h : Mx.within i 0 ((m.windows.length : Int) - 1) = true) : ∃ (k : Nat) (x : Mx.Win), i = (k : Int) ∧ k < m.windows.length ∧ m.windows[k]? = some x ∧ Lq.getW m i = some x := by
  rw [Pq.within_iff] at h
  obtain ⟨k, rfl⟩ := Int.eq_ofNat_of_zero_le h.1
  have hk : k < m.windows.length := by omega
  refine ⟨k, m.windows[k], rfl, hk, List.getElem?_eq_getElem hk, ?_⟩
  unfold Lq.getW
  rw [if_pos h.1, Int.toNat_natCast]
  exact List.getElem?_eq_getElem hk
set_option maxRecDepth 100000 in
set_option maxHeartbeats 4000000 in
theorem rmeet_any (w : World) (m : Mx.M) (a : Ma) (i0 j0 : Int) (hm : MIn w m a) (hS : Mx.Small m) (hwf : Mx.Wf m) : Calls Tryd.prog 40 #[mV m a, .int .i64 i0, .int .i64 j0] w fun e w' => e = .returned (.bool (Lq.meet m i0 j0)) ∧ Below w.heap.size w w' := by
  have HX : Hid (Bx w (w.alloc (.cells (mCs m a) 27)) w.heap.size m a) := Bx.mk' hm
  have hl := hS.c
  have hl1 : (m.windows.length : Int) ≤ 1000 := by omega
  have y10 := HX.out.row.mat.2.2.2.2.2.2.2.2.2.2
  have hW1 : ∀ (w1 : World) (n hi : Int), Calls Tryd.prog 37 #[.int .i64 n, .int .i64 0, .int .i64 hi] w1 fun e w' => e = .returned (.bool (Mx.within n 0 hi)) ∧ w' = w1 := fun w1 n hi => rwithin_any w1 n 0 hi
  have HW1 : Hid (_) := hW1
  show Calls _ _ #[.agg (mCs m a), _, _] _ _
  clear hm hS hl hW1
  obtain ⟨R, hR⟩ : ∃ R, Lq.meet m i0 j0 = R := ⟨_, rfl⟩
  rw [hR]
  generalize mCs m a = cs at HX y10 ⊢
  cases h1 : Mx.within i0 0 ((m.windows.length : Int) - 1)
  · have hR0 : R = false := by rw [← hR, Lq.meet, Lq.getW_none h1]
    clear hR
    go_enter Tryd.func40, Tryd.ntmps40
    go_wp2_with fail
    refine (HW1.out _ _ _).mono ?_
    rintro e w9 ⟨rfl, rfl⟩
    rw [h1]
    go_wp2
    go_ret
    exact ⟨by rw [hR0]; rfl, HX.out.below⟩
  · cases h2 : Mx.within j0 0 ((m.windows.length : Int) - 1)
    · have hR0 : R = false := by
        rw [← hR, Lq.meet, Lq.getW_none h2]
        cases Lq.getW m i0 <;> rfl
      clear hR
      go_enter Tryd.func40, Tryd.ntmps40
      go_wp2_with fail
      refine (HW1.out _ _ _).mono ?_
      rintro e w9 ⟨rfl, rfl⟩
      rw [h1]
      go_wp2_with fail
      refine (HW1.out _ _ _).mono ?_
      rintro e w9 ⟨rfl, rfl⟩
      rw [h2]
      go_wp2
      go_ret
      exact ⟨by rw [hR0]; rfl, HX.out.below⟩
    · obtain ⟨i, x, rfl, hi, hx, hgx⟩ := Lq.getW_some h1
      obtain ⟨j, y, rfl, hj, hy, hgy⟩ := Lq.getW_some h2
      have HRe : Hid (R = Lq.meetW m.cycles x y) := by show R = _; rw [← hR, Lq.meet, hgx, hgy]
      have HWx : Hid ((Lit.int .i64 x.cycle).wf = true) := (hwf.windows x (List.mem_of_getElem? hx)).2.2.2.1
      have HWy : Hid ((Lit.int .i64 y.cycle).wf = true) := (hwf.windows y (List.mem_of_getElem? hy)).2.2.2.1
      obtain ⟨gw, ow, hs, _⟩ := HX.out.mem.window hx
      have ii : (i : Int) < (m.windows.length : Int) := by omega
      have jj : (j : Int) < (m.windows.length : Int) := by omega
      clear hR hgx hgy hwf hi hj
      go_enter Tryd.func40, Tryd.ntmps40
      go_wp2_with fail
      refine (HW1.out _ _ _).mono ?_
      rintro e w9 ⟨rfl, rfl⟩
      rw [h1]
      go_wp2_with fail
      refine (HW1.out _ _ _).mono ?_
      rintro e w9 ⟨rfl, rfl⟩
      rw [h2]
      generalize w.alloc (.cells cs 27) = wB at HX y10 ⊢
      clear h1 h2 y10 HW1
      have HC : Hid (∀ w', Below wB.heap.size wB w' → w'.cell? ⟨w.heap.size, 10, none⟩ = some (.slice (some ⟨gw, ow, none⟩) m.windows.length a.c3) ∧ (w'.cell? ⟨gw, ow + i * 6, none⟩ = some (.int .i64 x.kind) ∧ w'.cell? ⟨gw, ow + i * 6 + 1, none⟩ = some (.int .i64 x.start) ∧ w'.cell? ⟨gw, ow + i * 6 + 2, none⟩ = some (.int .i64 x.fin) ∧ w'.cell? ⟨gw, ow + i * 6 + 3, none⟩ = some (.int .i64 x.cycle) ∧ w'.cell? ⟨gw, ow + i * 6 + 4, none⟩ = some (.int .i64 x.rep) ∧ w'.cell? ⟨gw, ow + i * 6 + 5, none⟩ = some (.int .i64 x.msg)) ∧ (w'.cell? ⟨gw, ow + j * 6, none⟩ = some (.int .i64 y.kind) ∧ w'.cell? ⟨gw, ow + j * 6 + 1, none⟩ = some (.int .i64 y.start) ∧ w'.cell? ⟨gw, ow + j * 6 + 2, none⟩ = some (.int .i64 y.fin) ∧ w'.cell? ⟨gw, ow + j * 6 + 3, none⟩ = some (.int .i64 y.cycle) ∧ w'.cell? ⟨gw, ow + j * 6 + 4, none⟩ = some (.int .i64 y.rep) ∧ w'.cell? ⟨gw, ow + j * 6 + 5, none⟩ = some (.int .i64 y.msg))) := fun w' hb => by
        have h10 := (HX.out.on hb).row.mat.2.2.2.2.2.2.2.2.2.2
        obtain ⟨g1, o1, e1, _, q⟩ := (HX.out.on hb).mem.window hx
        obtain ⟨g2, o2, e2, _, q2⟩ := (HX.out.on hb).mem.window hy
        rw [hs] at e1 e2 h10
        injection e1 with e1
        injection e1 with e1 e1o
        injection e2 with e2
        injection e2 with e2 e2o
        subst e1 e1o e2 e2o
        exact ⟨h10, q, q2⟩
      clear hs
      go_wp2_with fail
      go_cut [7, 8] from 26 (fun v7 v8 wx => ∃ q7 q8, v7 = Ob.ptr q7 ∧ v8 = Ob.ptr q8 ∧ Hid (RowT 58 wx q7 (mC3 x).toArray) ∧ Hid (RowT 58 wx q8 (mC3 y).toArray) ∧ Hid (Below wB.heap.size wB wx))
      case first =>
        refine wp_region_held_drew (S := fun w' => Below wB.heap.size wB w') (by kernel_rfl) (Below.refl _ _).drew (fun hHeld => ?_)
        refine Hl.takeL (i := 0) (d := 26) (v := ?_) rfl (by kernel_rfl) (by kernel_rfl) (by kernel_rfl) (fun _ _ _ h => h) (by rfl) ?_ (by first | assumption | trivial) ?_
        rotate_left
        · intro w hSw; obtain ⟨z10, ⟨x0, x1, x2, x3, x4, x5⟩, ⟨y0, y1, y2, y3, y4, y5⟩⟩ := HC.out _ hSw; go_simp; (try with_reducible rfl)
        simp only [Act.put, List.setIfInBounds_toArray, List.set_cons_zero, List.set_cons_succ]
        refine Hl.takeL (i := 1) (d := 27) (v := ?_) rfl (by kernel_rfl) (by kernel_rfl) (by kernel_rfl) (fun _ _ _ h => h) (by rfl) ?_ (by first | assumption | trivial) ?_
        rotate_left
        · intro w hSw; obtain ⟨z10, ⟨x0, x1, x2, x3, x4, x5⟩, ⟨y0, y1, y2, y3, y4, y5⟩⟩ := HC.out _ hSw; go_simp; (try with_reducible rfl)
        simp only [Act.put, List.setIfInBounds_toArray, List.set_cons_zero, List.set_cons_succ]
        refine Hl.takeL (i := 2) (d := 28) (v := ?_) rfl (by kernel_rfl) (by kernel_rfl) (by kernel_rfl) (fun _ _ _ h => h) (by rfl) ?_ (by first | assumption | trivial) ?_
        rotate_left
        · intro w hSw; obtain ⟨z10, ⟨x0, x1, x2, x3, x4, x5⟩, ⟨y0, y1, y2, y3, y4, y5⟩⟩ := HC.out _ hSw; go_simp; (try with_reducible rfl)
        simp only [Act.put, List.setIfInBounds_toArray, List.set_cons_zero, List.set_cons_succ]
        refine Hl.takeL (i := 3) (d := 29) (v := ?_) rfl (by kernel_rfl) (by kernel_rfl) (by kernel_rfl) (fun _ _ _ h => h) (by rfl) ?_ (by first | assumption | trivial) ?_
        rotate_left
        · intro w hSw; obtain ⟨z10, ⟨x0, x1, x2, x3, x4, x5⟩, ⟨y0, y1, y2, y3, y4, y5⟩⟩ := HC.out _ hSw; go_simp; (try with_reducible rfl)
        simp only [Act.put, List.setIfInBounds_toArray, List.set_cons_zero, List.set_cons_succ]
        refine Hl.takeL (i := 4) (d := 30) (v := ?_) rfl (by kernel_rfl) (by kernel_rfl) (by kernel_rfl) (fun _ _ _ h => h) (by rfl) ?_ (by first | assumption | trivial) ?_
        rotate_left
        · intro w hSw; obtain ⟨z10, ⟨x0, x1, x2, x3, x4, x5⟩, ⟨y0, y1, y2, y3, y4, y5⟩⟩ := HC.out _ hSw; go_simp; (try with_reducible rfl)
        simp only [Act.put, List.setIfInBounds_toArray, List.set_cons_zero, List.set_cons_succ]
        refine Hl.takeL (i := 5) (d := 31) (v := ?_) rfl (by kernel_rfl) (by kernel_rfl) (by kernel_rfl) (fun _ _ _ h => h) (by rfl) ?_ (by first | assumption | trivial) ?_
        rotate_left
        · intro w hSw; obtain ⟨z10, ⟨x0, x1, x2, x3, x4, x5⟩, ⟨y0, y1, y2, y3, y4, y5⟩⟩ := HC.out _ hSw; go_simp; (try with_reducible rfl)
        simp only [Act.put, List.setIfInBounds_toArray, List.set_cons_zero, List.set_cons_succ]
        refine Hl.takeL (i := 6) (d := 32) (v := ?_) rfl (by kernel_rfl) (by kernel_rfl) (by kernel_rfl) (fun _ _ _ h => h) (by rfl) ?_ (by first | assumption | trivial) ?_
        rotate_left
        · intro w hSw; obtain ⟨z10, ⟨x0, x1, x2, x3, x4, x5⟩, ⟨y0, y1, y2, y3, y4, y5⟩⟩ := HC.out _ hSw; go_simp; (try with_reducible rfl)
        simp only [Act.put, List.setIfInBounds_toArray, List.set_cons_zero, List.set_cons_succ]
        refine Hl.takeL (i := 7) (d := 33) (v := ?_) rfl (by kernel_rfl) (by kernel_rfl) (by kernel_rfl) (fun _ _ _ h => h) (by rfl) ?_ (by first | assumption | trivial) ?_
        rotate_left
        · intro w hSw; obtain ⟨z10, ⟨x0, x1, x2, x3, x4, x5⟩, ⟨y0, y1, y2, y3, y4, y5⟩⟩ := HC.out _ hSw; go_simp; (try with_reducible rfl)
        simp only [Act.put, List.setIfInBounds_toArray, List.set_cons_zero, List.set_cons_succ]
        refine Hl.takeL (i := 8) (d := 34) (v := ?_) rfl (by kernel_rfl) (by kernel_rfl) (by kernel_rfl) (fun _ _ _ h => h) (by rfl) ?_ (by first | assumption | trivial) ?_
        rotate_left
        · intro w hSw; obtain ⟨z10, ⟨x0, x1, x2, x3, x4, x5⟩, ⟨y0, y1, y2, y3, y4, y5⟩⟩ := HC.out _ hSw; go_simp; (try with_reducible rfl)
        simp only [Act.put, List.setIfInBounds_toArray, List.set_cons_zero, List.set_cons_succ]
        refine Hl.takeL (i := 9) (d := 35) (v := ?_) rfl (by kernel_rfl) (by kernel_rfl) (by kernel_rfl) (fun _ _ _ h => h) (by rfl) ?_ (by first | assumption | trivial) ?_
        rotate_left
        · intro w hSw; obtain ⟨z10, ⟨x0, x1, x2, x3, x4, x5⟩, ⟨y0, y1, y2, y3, y4, y5⟩⟩ := HC.out _ hSw; go_simp; (try with_reducible rfl)
        simp only [Act.put, List.setIfInBounds_toArray, List.set_cons_zero, List.set_cons_succ]
        refine Hl.consL2 (i := 10) (j := 11) rfl rfl (by kernel_rfl) (fun K' hK' => ?_) (fun K' hK' => ?_)
        · go_simp
          refine hK'.out _ _ (hHeld.alloc (Nat.le_refl _) _) (fun hHeld => ?_)
          clear hK' K'
          refine Hl.consL (i := 11) rfl (by kernel_rfl) (fun K' hK' => ?_)
          go_simp
          have hb2 : Below wB.heap.size wB ((wB.alloc (.cells #[.int .i64 0, .int .i64 0, .int .i64 0, .int .i64 0, .int .i64 0, .int .i64 0] 58)).alloc (.cells #[.int .i64 0, .int .i64 0, .int .i64 0, .int .i64 0, .int .i64 0, .int .i64 0] 58)).drew := hHeld.alloc (by simp) _
          have r1 : RowT 58 ((wB.alloc (.cells #[.int .i64 0, .int .i64 0, .int .i64 0, .int .i64 0, .int .i64 0, .int .i64 0] 58)).alloc (.cells #[.int .i64 0, .int .i64 0, .int .i64 0, .int .i64 0, .int .i64 0, .int .i64 0] 58)).drew wB.heap.size #[.int .i64 0, .int .i64 0, .int .i64 0, .int .i64 0, .int .i64 0, .int .i64 0] := (RowT.new _ wB _).on (((Below.refl _ _).alloc (Nat.le_refl _) _).drew)
          have r2 : RowT 58 ((wB.alloc (.cells #[.int .i64 0, .int .i64 0, .int .i64 0, .int .i64 0, .int .i64 0, .int .i64 0] 58)).alloc (.cells #[.int .i64 0, .int .i64 0, .int .i64 0, .int .i64 0, .int .i64 0, .int .i64 0] 58)).drew (wB.heap.size + 1) #[.int .i64 0, .int .i64 0, .int .i64 0, .int .i64 0, .int .i64 0, .int .i64 0] := by
            have := RowT.new 58 (wB.alloc (.cells #[.int .i64 0, .int .i64 0, .int .i64 0, .int .i64 0, .int .i64 0, .int .i64 0] 58)) #[.int .i64 0, .int .i64 0, .int .i64 0, .int .i64 0, .int .i64 0, .int .i64 0]
            rwa [show (wB.alloc (.cells #[.int .i64 0, .int .i64 0, .int .i64 0, .int .i64 0, .int .i64 0, .int .i64 0] 58)).heap.size = wB.heap.size + 1 by simp] at this
          refine hK'.out _ _ hb2 (fun hHeld2 => ?_)
          clear hK' K' hHeld2 hHeld
          generalize ((wB.alloc (.cells #[.int .i64 0, .int .i64 0, .int .i64 0, .int .i64 0, .int .i64 0, .int .i64 0] 58)).alloc (.cells #[.int .i64 0, .int .i64 0, .int .i64 0, .int .i64 0, .int .i64 0, .int .i64 0] 58)).drew = wA at hb2 r1 r2 ⊢
          refine Hl.consL (i := 12) rfl (by kernel_rfl) (fun K' hK' => ?_)
          refine Hl.step_store_row rfl 58 (.tmp 7) (.tmp 30) rfl wB.heap.size (mC3 x).toArray rfl rfl 58 _ r1 winfo14 rfl (mc3_one x) ?_
          have s1 : RowT 58 (wA.setRow wB.heap.size (mC3 x).toArray) wB.heap.size (mC3 x).toArray := setRow_heap _ _ _ _ _ _ r1
          have s2 : RowT 58 (wA.setRow wB.heap.size (mC3 x).toArray) (wB.heap.size + 1) #[.int .i64 0, .int .i64 0, .int .i64 0, .int .i64 0, .int .i64 0, .int .i64 0] := (setRow_other _ _ _ _ (by omega)).trans r2
          have hb3 : Below wB.heap.size wB (wA.setRow wB.heap.size (mC3 x).toArray) := below_setRow hb2 (by omega) _
          refine hK'.out _ _ hb3 (fun hHeld2 => ?_)
          clear hK' K' hHeld2 r1 r2 hb2
          generalize wA.setRow wB.heap.size (mC3 x).toArray = wA2 at s1 s2 hb3 ⊢
          refine Hl.consL (i := 13) rfl (by kernel_rfl) (fun K' hK' => ?_)
          refine Hl.step_store_row rfl 58 (.tmp 8) (.tmp 35) rfl (wB.heap.size + 1) (mC3 y).toArray rfl rfl 58 _ s2 winfo14 rfl (mc3_one y) ?_
          have t1 : RowT 58 (wA2.setRow (wB.heap.size + 1) (mC3 y).toArray) wB.heap.size (mC3 x).toArray := (setRow_other _ _ _ _ (by omega)).trans s1
          have t2 : RowT 58 (wA2.setRow (wB.heap.size + 1) (mC3 y).toArray) (wB.heap.size + 1) (mC3 y).toArray := setRow_heap _ _ _ _ _ _ s2
          have hb4 : Below wB.heap.size wB (wA2.setRow (wB.heap.size + 1) (mC3 y).toArray) := below_setRow hb3 (by omega) _
          refine hK'.out _ _ hb4 (fun hHeld2 => ?_)
          clear hK' K' hHeld2 s1 s2 hb3
          refine wpAnyH_done (by kernel_rfl) ?_ _
          go_wp2_with fail
          go_meet
          case rel => exact ⟨_, _, rfl, rfl, t1, t2, hb4⟩
        · go_simp
          refine hK'.out _ _ (hHeld.alloc (Nat.le_refl _) _) (fun hHeld => ?_)
          clear hK' K'
          refine Hl.consL (i := 10) rfl (by kernel_rfl) (fun K' hK' => ?_)
          go_simp
          have hb2 : Below wB.heap.size wB ((wB.alloc (.cells #[.int .i64 0, .int .i64 0, .int .i64 0, .int .i64 0, .int .i64 0, .int .i64 0] 58)).alloc (.cells #[.int .i64 0, .int .i64 0, .int .i64 0, .int .i64 0, .int .i64 0, .int .i64 0] 58)).drew := hHeld.alloc (by simp) _
          have r1 : RowT 58 ((wB.alloc (.cells #[.int .i64 0, .int .i64 0, .int .i64 0, .int .i64 0, .int .i64 0, .int .i64 0] 58)).alloc (.cells #[.int .i64 0, .int .i64 0, .int .i64 0, .int .i64 0, .int .i64 0, .int .i64 0] 58)).drew wB.heap.size #[.int .i64 0, .int .i64 0, .int .i64 0, .int .i64 0, .int .i64 0, .int .i64 0] := (RowT.new _ wB _).on (((Below.refl _ _).alloc (Nat.le_refl _) _).drew)
          have r2 : RowT 58 ((wB.alloc (.cells #[.int .i64 0, .int .i64 0, .int .i64 0, .int .i64 0, .int .i64 0, .int .i64 0] 58)).alloc (.cells #[.int .i64 0, .int .i64 0, .int .i64 0, .int .i64 0, .int .i64 0, .int .i64 0] 58)).drew (wB.heap.size + 1) #[.int .i64 0, .int .i64 0, .int .i64 0, .int .i64 0, .int .i64 0, .int .i64 0] := by
            have := RowT.new 58 (wB.alloc (.cells #[.int .i64 0, .int .i64 0, .int .i64 0, .int .i64 0, .int .i64 0, .int .i64 0] 58)) #[.int .i64 0, .int .i64 0, .int .i64 0, .int .i64 0, .int .i64 0, .int .i64 0]
            rwa [show (wB.alloc (.cells #[.int .i64 0, .int .i64 0, .int .i64 0, .int .i64 0, .int .i64 0, .int .i64 0] 58)).heap.size = wB.heap.size + 1 by simp] at this
          refine hK'.out _ _ hb2 (fun hHeld2 => ?_)
          clear hK' K' hHeld2 hHeld
          generalize ((wB.alloc (.cells #[.int .i64 0, .int .i64 0, .int .i64 0, .int .i64 0, .int .i64 0, .int .i64 0] 58)).alloc (.cells #[.int .i64 0, .int .i64 0, .int .i64 0, .int .i64 0, .int .i64 0, .int .i64 0] 58)).drew = wA at hb2 r1 r2 ⊢
          refine Hl.consL (i := 12) rfl (by kernel_rfl) (fun K' hK' => ?_)
          refine Hl.step_store_row rfl 58 (.tmp 7) (.tmp 30) rfl (wB.heap.size + 1) (mC3 x).toArray rfl rfl 58 _ r2 winfo14 rfl (mc3_one x) ?_
          have s1 : RowT 58 (wA.setRow (wB.heap.size + 1) (mC3 x).toArray) (wB.heap.size + 1) (mC3 x).toArray := setRow_heap _ _ _ _ _ _ r2
          have s2 : RowT 58 (wA.setRow (wB.heap.size + 1) (mC3 x).toArray) wB.heap.size #[.int .i64 0, .int .i64 0, .int .i64 0, .int .i64 0, .int .i64 0, .int .i64 0] := (setRow_other _ _ _ _ (by omega)).trans r1
          have hb3 : Below wB.heap.size wB (wA.setRow (wB.heap.size + 1) (mC3 x).toArray) := below_setRow hb2 (by omega) _
          refine hK'.out _ _ hb3 (fun hHeld2 => ?_)
          clear hK' K' hHeld2 r1 r2 hb2
          generalize wA.setRow (wB.heap.size + 1) (mC3 x).toArray = wA2 at s1 s2 hb3 ⊢
          refine Hl.consL (i := 13) rfl (by kernel_rfl) (fun K' hK' => ?_)
          refine Hl.step_store_row rfl 58 (.tmp 8) (.tmp 35) rfl wB.heap.size (mC3 y).toArray rfl rfl 58 _ s2 winfo14 rfl (mc3_one y) ?_
          have t1 : RowT 58 (wA2.setRow wB.heap.size (mC3 y).toArray) (wB.heap.size + 1) (mC3 x).toArray := (setRow_other _ _ _ _ (by omega)).trans s1
          have t2 : RowT 58 (wA2.setRow wB.heap.size (mC3 y).toArray) wB.heap.size (mC3 y).toArray := setRow_heap _ _ _ _ _ _ s2
          have hb4 : Below wB.heap.size wB (wA2.setRow wB.heap.size (mC3 y).toArray) := below_setRow hb3 (by omega) _
          refine hK'.out _ _ hb4 (fun hHeld2 => ?_)
          clear hK' K' hHeld2 s1 s2 hb3
          refine wpAnyH_done (by kernel_rfl) ?_ _
          go_wp2_with fail
          go_meet
          case rel => exact ⟨_, _, rfl, rfl, t1, t2, hb4⟩
      case rest =>
        obtain ⟨q7, q8, rfl, rfl, HR7, HR8, HB2⟩ := hcut
        have x1 : wc.cell? ⟨q7, 1, none⟩ = some (.int .i64 x.start) := HR7.out.c 1 _ rfl
        have x2 : wc.cell? ⟨q7, 2, none⟩ = some (.int .i64 x.fin) := HR7.out.c 2 _ rfl
        have x3 : wc.cell? ⟨q7, 3, none⟩ = some (.int .i64 x.cycle) := HR7.out.c 3 _ rfl
        have x4 : wc.cell? ⟨q7, 4, none⟩ = some (.int .i64 x.rep) := HR7.out.c 4 _ rfl
        have z1 : wc.cell? ⟨q8, 1, none⟩ = some (.int .i64 y.start) := HR8.out.c 1 _ rfl
        have z2 : wc.cell? ⟨q8, 2, none⟩ = some (.int .i64 y.fin) := HR8.out.c 2 _ rfl
        have z3 : wc.cell? ⟨q8, 3, none⟩ = some (.int .i64 y.cycle) := HR8.out.c 3 _ rfl
        have z4 : wc.cell? ⟨q8, 4, none⟩ = some (.int .i64 y.rep) := HR8.out.c 4 _ rfl
        have HXc : Hid (Bx w wc w.heap.size m a) := HX.out.on HB2.out
        have y2 := HXc.out.row.mat.2.2.1
        clear HC HR7 HR8 HB2 HX hx hy
        by_cases c1 : x.start < y.fin
        · by_cases c2 : y.start < x.fin
          · have HE : Hid (R = (List.range 8).any (Lq.both m.cycles x y)) := by show R = _; rw [HRe.out, Lq.meetW, Lq.cross, decide_eq_true c1, decide_eq_true c2]; rfl
            have c1' : ¬ (y.fin ≤ x.start) := by omega
            have c2' : ¬ (x.fin ≤ y.start) := by omega
            clear c1 c2
            go_wp2_with fail
            go_loopw [9] (fun vi wr => ∃ k : Nat, k ≤ 8 ∧ vi = .int .i64 (k : Int) ∧ wr = wc ∧ Hid (∀ c, c < k → Lq.both m.cycles x y c = false)) (fun vi _ => 8 - (intOf vi).toNat)
            case atStart => exact ⟨0, Nat.zero_le _, rfl, rfl, fun c hc => absurd hc (Nat.not_lt_zero _)⟩
            case round =>
              obtain ⟨k, hk, rfl, rfl, HF⟩ := hrel
              have HCm : Hid (∀ cy rp, (Lit.int .i64 cy).wf = true → Calls Tryd.prog 26 #[.int .i64 cy, .int .i64 rp, .int .i64 (k : Int)] wr fun e w' => e = .returned (.bool (Mx.comes cy rp (k : Int))) ∧ w' = wr) := fun cy rp h => rcomes_any wr cy rp (k : Int) h (wfi (by omega))
              by_cases hc : (k : Int) < m.cycles
              · by_cases h8 : k < 8
                · have h8i : (k : Int) < 8 := by omega
                  cases hm1 : Mx.comes x.cycle x.rep (k : Int)
                  · have HF2 : Hid (∀ c, c < k + 1 → Lq.both m.cycles x y c = false) := Lq.upto_b HF.out (by unfold Lq.both; rw [hm1]; simp)
                    go_wp2_with fail
                    refine (HCm.out _ _ HWx.out).mono ?_
                    rintro e w9 ⟨rfl, rfl⟩
                    rw [hm1]
                    go_wp2_with fail
                    go_roundw
                    case rel => exact ⟨k + 1, by omega, rfl, (by first | rfl | trivial), HF2⟩
                    case measure => simp only [intOf]; omega
                  · cases hm2 : Mx.comes y.cycle y.rep (k : Int)
                    · have HF2 : Hid (∀ c, c < k + 1 → Lq.both m.cycles x y c = false) := Lq.upto_b HF.out (by unfold Lq.both; rw [hm2]; simp)
                      go_wp2_with fail
                      refine (HCm.out _ _ HWx.out).mono ?_
                      rintro e w9 ⟨rfl, rfl⟩
                      rw [hm1]
                      go_wp2_with fail
                      refine (HCm.out _ _ HWy.out).mono ?_
                      rintro e w9 ⟨rfl, rfl⟩
                      rw [hm2]
                      go_wp2_with fail
                      go_roundw
                      case rel => exact ⟨k + 1, by omega, rfl, (by first | rfl | trivial), HF2⟩
                      case measure => simp only [intOf]; omega
                    · have hR : R = true := by
                        rw [HE.out, List.any_eq_true]
                        exact ⟨k, List.mem_range.2 h8, by unfold Lq.both; rw [decide_eq_true hc, hm1, hm2]; rfl⟩
                      go_wp2_with fail
                      refine (HCm.out _ _ HWx.out).mono ?_
                      rintro e w9 ⟨rfl, rfl⟩
                      rw [hm1]
                      go_wp2_with fail
                      refine (HCm.out _ _ HWy.out).mono ?_
                      rintro e w9 ⟨rfl, rfl⟩
                      rw [hm2]
                      go_wp2
                      go_ret
                      exact ⟨by first | rfl | (rw [hR]; rfl), HXc.out.below⟩
                · have h8i : ¬ ((k : Int) < 8) := by omega
                  have hR : R = false := by
                    rw [HE.out]
                    exact Lq.any_none (fun c hc => HF.out c (by omega))
                  go_wp2
                  go_ret
                  exact ⟨by first | rfl | (rw [hR]; rfl), HXc.out.below⟩
              · have hR : R = false := by
                  rw [HE.out]
                  exact Lq.any_none (fun c hc8 => by
                    by_cases hck : c < k
                    · exact HF.out c hck
                    · unfold Lq.both; rw [decide_eq_false (by omega)]; rfl)
                go_wp2
                go_ret
                exact ⟨by first | rfl | (rw [hR]; rfl), HXc.out.below⟩
          · have hR : R = false := by rw [HRe.out, Lq.meetW, Lq.cross, decide_eq_false c2]; simp
            have c1' : ¬ (y.fin ≤ x.start) := by omega
            have c2' : x.fin ≤ y.start := by omega
            clear c1 c2
            go_wp2
            go_ret
            exact ⟨by first | rfl | (rw [hR]; rfl), HXc.out.below⟩
        · have hR : R = false := by rw [HRe.out, Lq.meetW, Lq.cross, decide_eq_false c1]; simp
          have c1' : y.fin ≤ x.start := by omega
          clear c1
          go_wp2
          go_ret
          exact ⟨by first | rfl | (rw [hR]; rfl), HXc.out.below⟩
end Go.Proofs.YtnbfnipdiffphaaDoor
/- Layer 14: the document's window. -/
namespace Go.Proofs.YtnbfnipdiffphaaDoor
open Go.RowKit Go.WideShapes
set_option linter.unusedVariables false
set_option maxRecDepth 100000 in
set_option maxHeartbeats 4000000 in
theorem rwindow_any (w : World) (m : Mx.M) (a : Ma) (i : Nat) (hm : MIn w m a) (hS : Mx.Small m) (hwf : Mx.Wf m) (hi : Mx.is m = true) (hlt : i < m.windows.length) : Calls Tryd.prog 31 #[mV m a, .int .i64 (i : Int)] w fun e w' => e = .returned (.int .i64 (Lq.eWin m i)) ∧ Below w.heap.size w w' := by
  have HX : Hid (Bx w (w.alloc (.cells (mCs m a) 27)) w.heap.size m a) := Bx.mk' hm
  obtain ⟨x, hx⟩ : ∃ x, m.windows[i]? = some x := ⟨_, List.getElem?_eq_getElem hlt⟩
  have hxw := (Pq.num_of hi).windows x (List.mem_of_getElem? hx)
  have hl := hS.c
  have hl2 := hS.b
  have y10 := HX.out.row.mat.2.2.2.2.2.2.2.2.2.2
  have y9 := HX.out.row.mat.2.2.2.2.2.2.2.2.2.1
  obtain ⟨gw, ow, hs, _, x0, x1, x2, x3, x4, x5⟩ := HX.out.mem.window hx
  rw [hs] at y10
  have ii : (i : Int) < (m.windows.length : Int) := by omega
  have i2 : (i : Int) ≤ 1000 := by omega
  have l2 : (m.messages.length : Int) ≤ 1000 := by omega
  have HSt : Hid (∀ w', MIn w' m a → Calls Tryd.prog 22 #[mV m a] w' fun e w'' => e = .returned (.int .i64 (Lq.step m)) ∧ Below w'.heap.size w' w'') := fun w' h => rstep_any w' m a h hS hwf
  have HMt : Hid (∀ w' (k : Nat), MIn w' m a → Calls Tryd.prog 40 #[mV m a, .int .i64 (k : Int), .int .i64 (i : Int)] w' fun e w'' => e = .returned (.bool (Lq.meet m (k : Int) (i : Int))) ∧ Below w'.heap.size w' w'') := fun w' k h => rmeet_any w' m a (k : Int) (i : Int) h hS hwf
  obtain ⟨R, hR⟩ : ∃ R, Lq.eWin m i = R := ⟨_, rfl⟩
  rw [hR]
  have HRe : Hid (R = if Lq.noMsg m x then 145 else if Lq.tight m x then 144 else if Lq.meets m i then 143 else 0) := by show R = _; rw [← hR, Lq.eWin, hx]
  show Calls _ _ #[.agg (mCs m a), _] _ _
  generalize mCs m a = cs at HX y10 y9 x0 x1 x2 x3 x4 x5 ⊢
  clear hm hS hwf hlt hR hs hl hl2
  go_enter Tryd.func31, Tryd.ntmps31
  go_upto_region 2 with fail
  have HX2 : Hid (Bx w ((w.alloc (.cells cs 27)).alloc (.cells #[.int .i64 x.kind, .int .i64 x.start, .int .i64 x.fin, .int .i64 x.cycle, .int .i64 x.rep, .int .i64 x.msg] 58)) w.heap.size m a) := HX.out.al _
  have HV : Hid (RowT 58 ((w.alloc (.cells cs 27)).alloc (.cells #[.int .i64 x.kind, .int .i64 x.start, .int .i64 x.fin, .int .i64 x.cycle, .int .i64 x.rep, .int .i64 x.msg] 58)) (w.heap.size + 1) (mC3 x).toArray) := by
    have := RowT.new 58 (w.alloc (.cells cs 27)) (mC3 x).toArray
    rwa [show (w.alloc (.cells cs 27)).heap.size = w.heap.size + 1 by simp] at this
  generalize (w.alloc (.cells cs 27)).alloc (.cells #[.int .i64 x.kind, .int .i64 x.start, .int .i64 x.fin, .int .i64 x.cycle, .int .i64 x.rep, .int .i64 x.msg] 58) = w2 at HX2 HV ⊢
  clear HX x0 x1 x2 x3 x4 x5 y9 y10
  have y9 := HX2.out.row.mat.2.2.2.2.2.2.2.2.2.1
  have v0 : w2.cell? ⟨w.heap.size + 1, 0, none⟩ = some (.int .i64 x.kind) := HV.out.c 0 _ rfl
  have v5 : w2.cell? ⟨w.heap.size + 1, 5, none⟩ = some (.int .i64 x.msg) := HV.out.c 5 _ rfl
  have HR : Hid (∀ w', Below w2.heap.size w2 w' → RowT 27 w' w.heap.size (mCs m a)) := fun w' hb => (HX2.out.on hb).row
  have HVr : Hid (∀ w', Below w2.heap.size w2 w' → w'.cell? ⟨w.heap.size + 1, 0, none⟩ = some (.int .i64 x.kind) ∧ w'.cell? ⟨w.heap.size + 1, 1, none⟩ = some (.int .i64 x.start) ∧ w'.cell? ⟨w.heap.size + 1, 2, none⟩ = some (.int .i64 x.fin)) := fun w' hb => ⟨(HV.out.on hb).c 0 _ rfl, (HV.out.on hb).c 1 _ rfl, (HV.out.on hb).c 2 _ rfl⟩
  go_cut [31] from 12 (fun v wx => v = .bool (Lq.noMsg m x) ∧ wx = w2)
  case first =>
    cases hk : (x.kind == 1)
    · have hN : Lq.noMsg m x = false := by unfold Lq.noMsg; rw [hk]; rfl
      go_wp2_with fail
      go_meet
      case rel => exact ⟨by rw [hN], rfl⟩
    · obtain ⟨k, hkm⟩ := Int.eq_ofNat_of_zero_le hxw.2.2.2.2.2.1
      rw [hkm] at v5
      by_cases hkl : k < m.messages.length
      · obtain ⟨y, hy⟩ : ∃ y, m.messages[k]? = some y := ⟨_, List.getElem?_eq_getElem hkl⟩
        obtain ⟨g, o, hs, _, _, _, z2⟩ := HX2.out.mem.message hy
        rw [hs] at y9
        have hN : Lq.noMsg m x = y.event := by
          unfold Lq.noMsg Lq.noMsg.getMsg
          rw [hk, hkm, if_pos (by omega), Int.toNat_natCast, hy]
          rfl
        have k1 : (k : Int) < (m.messages.length : Int) := by omega
        have k2 : ¬ ((m.messages.length : Int) ≤ (k : Int)) := by omega
        clear hs hy hkm
        go_wp2_with fail
        go_meet
        case rel => exact ⟨by rw [hN], rfl⟩
      · have hN : Lq.noMsg m x = true := by
          unfold Lq.noMsg Lq.noMsg.getMsg
          rw [hk, hkm, if_pos (by omega), Int.toNat_natCast, List.getElem?_eq_none (by omega)]
          rfl
        have k2 : (m.messages.length : Int) ≤ (k : Int) := by omega
        clear hkm
        go_wp2_with fail
        go_meet
        case rel => exact ⟨by rw [hN], rfl⟩
  case rest =>
    obtain ⟨rfl, hwc⟩ := hcut
    obtain rfl : w2 = wc := hwc.symm
    clear y9 v0 v5
    cases hn : Lq.noMsg m x
    rotate_left
    · have hRv : R = 145 := by rw [HRe.out, hn]; rfl
      go_wp2
      go_ret
      exact ⟨by first | rfl | (rw [hRv]; rfl), HX2.out.below⟩
    have hst := Lq.step m
    have HStp : Hid (∀ w', Below w2.heap.size w2 w' → Calls Tryd.prog 22 #[mV m a] w' fun e w'' => e = .returned (.int .i64 (Lq.step m)) ∧ Below w'.heap.size w' w'') := fun w' hb => HSt.out w' (HX2.out.on hb).mem
    have e1 : Lq.tight m x = (decide (x.start < Lq.step m) || x.kind != 3 && decide (x.fin - x.start < Lq.step m)) := rfl
    obtain ⟨b1, ⟨b2, b3⟩, ⟨b4, b5⟩, _⟩ := hxw
    generalize Lq.tight m x = T at *
    generalize Lq.step m = V at *
    go_wp2_with fail
    go_cut [51] from 32 (fun v wx => v = .bool T ∧ Hid (Below w2.heap.size w2 wx))
    case first =>
      by_cases c1 : x.start < V
      · have hT : T = true := by rw [e1, decide_eq_true c1]; rfl
        clear e1
        refine Lw.wp_region_quiet_below (by kernel_rfl) (by kernel_rfl) ?_
        repeat (first
          | go_big_quiet_skip
          | (go_big_quiet_want; go_big_quiet_op; go_big_quiet_on)
          | (go_big_quiet_want; go_big_quiet_op; apply Exists.intro; refine ⟨fun _ hb' => ?_, ?_⟩; (first
            | exact Lw.val_rfl _
            | (go_at_call 22; exact Lw.calls_below hb' (HStp.out _ hb'))
            | (simp [go_sem, (HVr.out _ hb').2.1]; rfl)
            | (simp [go_sem, (HR.out _ hb').mat.1, (HR.out _ hb').mat.2.1, (HR.out _ hb').mat.2.2.1, (HR.out _ hb').mat.2.2.2.1, (HR.out _ hb').mat.2.2.2.2.1, (HR.out _ hb').mat.2.2.2.2.2.1, (HR.out _ hb').mat.2.2.2.2.2.2.1, (HR.out _ hb').mat.2.2.2.2.2.2.2.1, (HR.out _ hb').mat.2.2.2.2.2.2.2.2.1, (HR.out _ hb').mat.2.2.2.2.2.2.2.2.2.1, (HR.out _ hb').mat.2.2.2.2.2.2.2.2.2.2]; rfl)); go_big_quiet_on))
        refine wpQuiet_nil ?_
        intro wz hbz
        go_wp2_with fail
        go_meet
        case rel => exact ⟨by rw [hT], hbz⟩
      · cases c3 : (x.kind != 3)
        · have hT : T = false := by rw [e1, decide_eq_false c1, c3]; rfl
          clear e1
          refine Lw.wp_region_quiet_below (by kernel_rfl) (by kernel_rfl) ?_
          repeat (first
            | go_big_quiet_skip
            | (go_big_quiet_want; go_big_quiet_op; go_big_quiet_on)
            | (go_big_quiet_want; go_big_quiet_op; apply Exists.intro; refine ⟨fun _ hb' => ?_, ?_⟩; (first
              | exact Lw.val_rfl _
              | (go_at_call 22; exact Lw.calls_below hb' (HStp.out _ hb'))
              | (simp [go_sem, (HVr.out _ hb').1]; rfl)
              | (simp [go_sem, (HVr.out _ hb').2.1]; rfl)
              | (simp [go_sem, (HR.out _ hb').mat.1, (HR.out _ hb').mat.2.1, (HR.out _ hb').mat.2.2.1, (HR.out _ hb').mat.2.2.2.1, (HR.out _ hb').mat.2.2.2.2.1, (HR.out _ hb').mat.2.2.2.2.2.1, (HR.out _ hb').mat.2.2.2.2.2.2.1, (HR.out _ hb').mat.2.2.2.2.2.2.2.1, (HR.out _ hb').mat.2.2.2.2.2.2.2.2.1, (HR.out _ hb').mat.2.2.2.2.2.2.2.2.2.1, (HR.out _ hb').mat.2.2.2.2.2.2.2.2.2.2]; rfl)); go_big_quiet_on))
          refine wpQuiet_nil ?_
          intro wz hbz
          go_wp2_with fail
          go_meet
          case rel => exact ⟨by rw [hT], hbz⟩
        · by_cases c2 : x.fin - x.start < V
          · have hT : T = true := by rw [e1, c3, decide_eq_true c2]; simp
            clear e1
            refine Lw.wp_region_quiet_below (by kernel_rfl) (by kernel_rfl) ?_
            repeat (first
              | go_big_quiet_skip
              | (go_big_quiet_want; go_big_quiet_op; go_big_quiet_on)
              | (go_big_quiet_want; go_big_quiet_op; apply Exists.intro; refine ⟨fun _ hb' => ?_, ?_⟩; (first
                | exact Lw.val_rfl _
                | (go_at_call 22; exact Lw.calls_below hb' (HStp.out _ hb'))
                | (simp [go_sem, (HVr.out _ hb').1]; rfl)
                | (simp [go_sem, (HVr.out _ hb').2.1]; rfl)
                | (simp [go_sem, (HVr.out _ hb').2.2]; rfl)
                | (simp [go_sem, (HR.out _ hb').mat.1, (HR.out _ hb').mat.2.1, (HR.out _ hb').mat.2.2.1, (HR.out _ hb').mat.2.2.2.1, (HR.out _ hb').mat.2.2.2.2.1, (HR.out _ hb').mat.2.2.2.2.2.1, (HR.out _ hb').mat.2.2.2.2.2.2.1, (HR.out _ hb').mat.2.2.2.2.2.2.2.1, (HR.out _ hb').mat.2.2.2.2.2.2.2.2.1, (HR.out _ hb').mat.2.2.2.2.2.2.2.2.2.1, (HR.out _ hb').mat.2.2.2.2.2.2.2.2.2.2]; rfl)); go_big_quiet_on))
            refine wpQuiet_nil ?_
            intro wz hbz
            go_wp2_with fail
            go_meet
            case rel => exact ⟨by rw [hT], hbz⟩
          · have hT : T = false := by rw [e1, c3, decide_eq_false c1, decide_eq_false c2]; rfl
            clear e1
            refine Lw.wp_region_quiet_below (by kernel_rfl) (by kernel_rfl) ?_
            repeat (first
              | go_big_quiet_skip
              | (go_big_quiet_want; go_big_quiet_op; go_big_quiet_on)
              | (go_big_quiet_want; go_big_quiet_op; apply Exists.intro; refine ⟨fun _ hb' => ?_, ?_⟩; (first
                | exact Lw.val_rfl _
                | (go_at_call 22; exact Lw.calls_below hb' (HStp.out _ hb'))
                | (simp [go_sem, (HVr.out _ hb').1]; rfl)
                | (simp [go_sem, (HVr.out _ hb').2.1]; rfl)
                | (simp [go_sem, (HVr.out _ hb').2.2]; rfl)
                | (simp [go_sem, (HR.out _ hb').mat.1, (HR.out _ hb').mat.2.1, (HR.out _ hb').mat.2.2.1, (HR.out _ hb').mat.2.2.2.1, (HR.out _ hb').mat.2.2.2.2.1, (HR.out _ hb').mat.2.2.2.2.2.1, (HR.out _ hb').mat.2.2.2.2.2.2.1, (HR.out _ hb').mat.2.2.2.2.2.2.2.1, (HR.out _ hb').mat.2.2.2.2.2.2.2.2.1, (HR.out _ hb').mat.2.2.2.2.2.2.2.2.2.1, (HR.out _ hb').mat.2.2.2.2.2.2.2.2.2.2]; rfl)); go_big_quiet_on))
            refine wpQuiet_nil ?_
            intro wz hbz
            go_wp2_with fail
            go_meet
            case rel => exact ⟨by rw [hT], hbz⟩
    case rest =>
      obtain ⟨rfl, HB2⟩ := hcut
      clear e1 b1 b2 b3 b4 b5 HVr HStp HSt HV
      cases T
      rotate_left
      · have hRv : R = 144 := by rw [HRe.out, hn]; rfl
        have HBz : Hid (Below w.heap.size w wc) := (HX2.out.on HB2.out).below
        go_wp2
        go_ret
        exact ⟨by first | rfl | (rw [hRv]; rfl), HBz.out⟩
      have HRm : Hid (R = if Lq.meets m i then 143 else 0) := by show R = _; rw [HRe.out, hn]; rfl
      clear HRe hn
      go_wp2_with fail
      go_loopw [6] (fun vi wr => ∃ k : Nat, k ≤ i ∧ vi = .int .i64 (k : Int) ∧ Hid (Below w2.heap.size w2 wr) ∧ Hid (∀ c, c < k → Lq.meet m (c : Int) (i : Int) = false)) (fun vi _ => i - (intOf vi).toNat)
      case atStart => exact ⟨0, Nat.zero_le _, rfl, HB2, fun c hc => absurd hc (Nat.not_lt_zero _)⟩
      case round =>
        clear HB2
        obtain ⟨k, hk, rfl, HB3, HF⟩ := hrel
        by_cases hki : k < i
        · have ki : (k : Int) < (i : Int) := by omega
          obtain ⟨y0, y1, y2, y3, y4, y5, y6, y7, y8, y9, y10⟩ := (HR.out _ HB3.out).mat
          have hmt := HMt.out wr k (HX2.out.on HB3.out).mem
          cases hmk : Lq.meet m (k : Int) (i : Int)
          · rw [hmk] at hmt
            go_wp2_with fail
            refine hmt.mono ?_
            rintro e wz ⟨rfl, hb⟩
            have HB4 : Hid (Below w2.heap.size w2 wz) := HB3.out.trans (hb.mono HB3.out.size)
            have HF2 : Hid (∀ c, c < k + 1 → Lq.meet m (c : Int) (i : Int) = false) := Lq.upto_b (f := fun c => Lq.meet m (c : Int) (i : Int)) HF.out hmk
            clear y0 y1 y2 y3 y4 y5 y6 y7 y8 y9 y10 hb hmt
            go_wp2_with fail
            go_roundw
            case rel => exact ⟨k + 1, by omega, rfl, HB4, HF2⟩
            case measure => simp only [intOf]; omega
          · rw [hmk] at hmt
            have hRv : R = 143 := by
              rw [HRm.out, show Lq.meets m i = true from List.any_eq_true.2 ⟨k, List.mem_range.2 hki, hmk⟩]
              rfl
            go_wp2_with fail
            refine hmt.mono ?_
            rintro e wz ⟨rfl, hb⟩
            have HB4 : Hid (Below w2.heap.size w2 wz) := HB3.out.trans (hb.mono HB3.out.size)
            have HBz : Hid (Below w.heap.size w wz) := (HX2.out.on HB4.out).below
            clear y0 y1 y2 y3 y4 y5 y6 y7 y8 y9 y10 hb hmt
            go_wp2
            go_ret
            exact ⟨by first | rfl | (rw [hRv]; rfl), HBz.out⟩
        · have ki : ¬ ((k : Int) < (i : Int)) := by omega
          have hRv : R = 0 := by
            rw [HRm.out, show Lq.meets m i = false from Lq.any_none (fun c hc => HF.out c (by omega))]
            rfl
          have HBz : Hid (Below w.heap.size w wr) := (HX2.out.on HB3.out).below
          go_wp2
          go_ret
          exact ⟨by first | rfl | (rw [hRv]; rfl), HBz.out⟩
end Go.Proofs.YtnbfnipdiffphaaDoor
/- Layer 14: the document's twice. -/
namespace Go.Proofs.YtnbfnipdiffphaaDoor
open Go.RowKit Go.WideShapes
set_option linter.unusedVariables false
set_option maxRecDepth 100000 in
set_option maxHeartbeats 4000000 in
theorem rtwice_any (w : World) (m : Mx.M) (a : Ma) (hm : MIn w m a) (hS : Mx.Small m) (hwf : Mx.Wf m) : Calls Tryd.prog 30 #[mV m a] w fun e w' => e = .returned (.tuple #[.int .i64 (Lq.twice m).1, .int .i64 (Lq.twice m).2]) ∧ Below w.heap.size w w' := by
  have HX : Hid (Bx w (w.alloc (.cells (mCs m a) 27)) w.heap.size m a) := Bx.mk' hm
  have hl := hS.a
  have hl2 := hS.b
  have l1 : (m.masters.length : Int) ≤ 1000 := by omega
  have l2 : (m.messages.length : Int) ≤ 1000 := by omega
  have HS : Hid (Mx.Small m) := hS
  have HWf : Hid (Mx.Wf m) := hwf
  obtain ⟨R1, hR1⟩ : ∃ R1, (Lq.twice m).1 = R1 := ⟨_, rfl⟩
  obtain ⟨R2, hR2⟩ : ∃ R2, (Lq.twice m).2 = R2 := ⟨_, rfl⟩
  rw [hR1, hR2]
  have HRe : Hid ((R1, R2) = Lq.orElse (Lq.scan (Lq.eRank m) m.masters.length 0) (Lq.scan (Lq.eFind m) m.messages.length 0)) := by show _ = Lq.twice m; rw [← hR1, ← hR2]
  show Calls _ _ #[.agg (mCs m a)] _ _
  generalize mCs m a = cs at HX ⊢
  clear hm hS hwf hR1 hR2 hl hl2
  go_enter Tryd.func30, Tryd.ntmps30
  go_wp2_with fail
  generalize w.alloc (.cells cs 27) = wB at HX ⊢
  have HR : Hid (∀ w', Below wB.heap.size wB w' → RowT 27 w' w.heap.size (mCs m a)) := fun w' hb => (HX.out.on hb).row
  go_loopw [4] (fun vi wr => ∃ k : Nat, k ≤ m.masters.length ∧ vi = .int .i64 (k : Int) ∧ Hid (Below wB.heap.size wB wr) ∧ Hid (∀ j, j < k → Lq.eRank m j = 0)) (fun vi _ => m.masters.length - (intOf vi).toNat)
  case atStart => exact ⟨0, Nat.zero_le _, rfl, Below.refl _ _, fun c hc => absurd hc (Nat.not_lt_zero _)⟩
  case round =>
    obtain ⟨k, hk, rfl, HB, HF⟩ := hrel
    have y8 := (HR.out _ HB.out).mat.2.2.2.2.2.2.2.2.1
    by_cases hkl : k < m.masters.length
    · have ki : (k : Int) < (m.masters.length : Int) := by omega
      obtain ⟨x, hx⟩ : ∃ x, m.masters[k]? = some x := ⟨_, List.getElem?_eq_getElem hkl⟩
      obtain ⟨g, o, hs, _, _⟩ := HX.out.mem.master hx
      have HC : Hid (∀ w', Below wr.heap.size wr w' → w'.cell? ⟨w.heap.size, 8, none⟩ = some (.slice (some ⟨g, o, none⟩) m.masters.length a.c1) ∧ w'.cell? ⟨g, o + k, none⟩ = some (.int .i64 x)) := fun w' hb => by
        have hb2 := HB.out.trans (hb.mono HB.out.size)
        have h8 := (HR.out _ hb2).mat.2.2.2.2.2.2.2.2.1
        obtain ⟨g1, o1, e1, _, q⟩ := (HX.out.on hb2).mem.master hx
        rw [hs] at e1 h8
        injection e1 with e1
        injection e1 with e1 e1o
        subst e1 e1o
        exact ⟨h8, q⟩
      have HR2 : Hid (∀ w', Below wr.heap.size wr w' → RowT 27 w' w.heap.size (mCs m a)) := fun w' hb => HR.out _ (HB.out.trans (hb.mono HB.out.size))
      have HRk : Hid (∀ w', Below wr.heap.size wr w' → Calls Tryd.prog 24 #[mV m a, .int .i64 x] w' fun e w'' => e = .returned (.int .i64 (Mx.rank m x)) ∧ Below w'.heap.size w' w'') := fun w' hb => rrank_any w' m a x (HX.out.on (HB.out.trans (hb.mono HB.out.size))).mem HS.out
      have HEk : Hid (Lq.eRank m k = if Mx.rank m x < (k : Int) then 142 else 0) := by show _ = _; unfold Lq.eRank; rw [hx]
      rw [hs] at y8
      clear hs
      generalize Mx.rank m x = V at *
      by_cases hv : V < (k : Int)
      · have hE : Lq.eRank m k = 142 := by rw [HEk.out, if_pos hv]
        have hsc := Lq.scan_some (f := Lq.eRank m) (j := k) (n := m.masters.length) (k := 0) (by rw [hE]; decide) (Nat.zero_le _) (by omega) (fun i _ h => HF.out i h)
        have hRR : R1 = (k : Int) ∧ R2 = 142 := by
          have := HRe.out
          rw [hsc, hE, Lq.orElse_some (by show (142 : Int) ≠ 0; decide)] at this
          exact ⟨(Prod.mk.inj this).1, (Prod.mk.inj this).2⟩
        obtain ⟨rfl, rfl⟩ := hRR
        clear hsc hE HRe HEk
        go_wp2_with fail
        refine Lw.wp_region_quiet_below (by kernel_rfl) (by kernel_rfl) ?_
        repeat (first
          | go_big_quiet_skip
          | (go_big_quiet_want; go_big_quiet_op; go_big_quiet_on)
          | (go_big_quiet_want; go_big_quiet_op; apply Exists.intro; refine ⟨fun _ hb' => ?_, ?_⟩; (first
            | exact Lw.val_rfl _
            | (go_at_call 24; exact Lw.calls_below hb' (HRk.out _ hb'))
            | (simp [go_sem, (HC.out _ hb').1]; rfl)
            | (simp [go_sem, (HC.out _ hb').2]; rfl)
            | (simp [go_sem, (HR2.out _ hb').mat.1, (HR2.out _ hb').mat.2.1, (HR2.out _ hb').mat.2.2.1, (HR2.out _ hb').mat.2.2.2.1, (HR2.out _ hb').mat.2.2.2.2.1, (HR2.out _ hb').mat.2.2.2.2.2.1, (HR2.out _ hb').mat.2.2.2.2.2.2.1, (HR2.out _ hb').mat.2.2.2.2.2.2.2.1, (HR2.out _ hb').mat.2.2.2.2.2.2.2.2.1, (HR2.out _ hb').mat.2.2.2.2.2.2.2.2.2.1, (HR2.out _ hb').mat.2.2.2.2.2.2.2.2.2.2]; rfl)); go_big_quiet_on))
        refine wpQuiet_nil ?_
        intro wz hbz
        have HBz : Hid (Below w.heap.size w wz) := (HX.out.on (HB.out.trans (hbz.mono HB.out.size))).below
        clear hbz
        go_wp2
        go_ret2
        exact ⟨rfl, HBz.out⟩
      · have hE : Lq.eRank m k = 0 := by rw [HEk.out, if_neg hv]
        have HF2 : Hid (∀ j, j < k + 1 → Lq.eRank m j = 0) := Lq.upto HF.out hE
        have hv' : ¬ (V < (k : Int)) := hv
        clear hE HEk hv
        go_wp2_with fail
        refine Lw.wp_region_quiet_below (by kernel_rfl) (by kernel_rfl) ?_
        repeat (first
          | go_big_quiet_skip
          | (go_big_quiet_want; go_big_quiet_op; go_big_quiet_on)
          | (go_big_quiet_want; go_big_quiet_op; apply Exists.intro; refine ⟨fun _ hb' => ?_, ?_⟩; (first
            | exact Lw.val_rfl _
            | (go_at_call 24; exact Lw.calls_below hb' (HRk.out _ hb'))
            | (simp [go_sem, (HC.out _ hb').1]; rfl)
            | (simp [go_sem, (HC.out _ hb').2]; rfl)
            | (simp [go_sem, (HR2.out _ hb').mat.1, (HR2.out _ hb').mat.2.1, (HR2.out _ hb').mat.2.2.1, (HR2.out _ hb').mat.2.2.2.1, (HR2.out _ hb').mat.2.2.2.2.1, (HR2.out _ hb').mat.2.2.2.2.2.1, (HR2.out _ hb').mat.2.2.2.2.2.2.1, (HR2.out _ hb').mat.2.2.2.2.2.2.2.1, (HR2.out _ hb').mat.2.2.2.2.2.2.2.2.1, (HR2.out _ hb').mat.2.2.2.2.2.2.2.2.2.1, (HR2.out _ hb').mat.2.2.2.2.2.2.2.2.2.2]; rfl)); go_big_quiet_on))
        refine wpQuiet_nil ?_
        intro wz hbz
        have HBz : Hid (Below wB.heap.size wB wz) := HB.out.trans (hbz.mono HB.out.size)
        clear hbz
        go_wp2_with fail
        go_roundw
        case rel => exact ⟨k + 1, by omega, rfl, HBz, HF2⟩
        case measure => simp only [intOf]; omega
    · have ki : ¬ ((k : Int) < (m.masters.length : Int)) := by omega
      have HRf : Hid ((R1, R2) = Lq.scan (Lq.eFind m) m.messages.length 0) := by
        show _ = _
        rw [HRe.out, Lq.scan_none (fun j _ hj => HF.out j (by omega))]
        rfl
      clear HRe HF
      go_wp2_with fail
      clear y8
      go_loopw [5, 6] (fun vi _v wr => ∃ k : Nat, k ≤ m.messages.length ∧ vi = .int .i64 (k : Int) ∧ Hid (Below wB.heap.size wB wr) ∧ Hid (∀ j, j < k → Lq.eFind m j = 0)) (fun vi _ _ => m.messages.length - (intOf vi).toNat)
      case atStart => exact ⟨0, Nat.zero_le _, rfl, HB, fun c hc => absurd hc (Nat.not_lt_zero _)⟩
      case round =>
        clear HB ki hk hkl
        obtain ⟨k, hk, rfl, HB, HF⟩ := hrel
        obtain ⟨y0, y1, y2, y3, y4, y5, y6, y7, y8, y9, y10⟩ := (HR.out _ HB.out).mat
        by_cases hkl : k < m.messages.length
        · have ki : (k : Int) < (m.messages.length : Int) := by omega
          obtain ⟨x, hx⟩ : ∃ x, m.messages[k]? = some x := ⟨_, List.getElem?_eq_getElem hkl⟩
          obtain ⟨g, o, hs, _, z0, _, _⟩ := (HX.out.on HB.out).mem.message hx
          have HY7 : Hid (∀ w', Below wr.heap.size wr w' → w'.cell? ⟨w.heap.size, 7, none⟩ = some (.int .u32 (m.ref : Int))) := fun w' hb => (HR.out _ (HB.out.trans (hb.mono HB.out.size))).mat.2.2.2.2.2.2.2.1
          have hfn := rfind_any wr m a false false x.id ByteArray.empty (HX.out.on HB.out).mem HS.out
          have HEk : Hid (Lq.eFind m k = if Mx.find m false false x.id < (k : Int) ∨ x.id / 8 = m.ref / 8 then 142 else 0) := by show _ = _; unfold Lq.eFind; rw [hx]
          have hid := (HWf.out.messages x (List.mem_of_getElem? hx)).1
          have hrf := HWf.out.ref
          rw [hs] at y9
          generalize Mx.find m false false x.id = V at *
          clear hx
          by_cases hv : V < (k : Int)
          · have hE : Lq.eFind m k = 142 := by rw [HEk.out, if_pos (Or.inl hv)]
            have hsc := Lq.scan_some (f := Lq.eFind m) (j := k) (n := m.messages.length) (k := 0) (by rw [hE]; decide) (Nat.zero_le _) (by omega) (fun i _ h => HF.out i h)
            have hRR : R1 = (k : Int) ∧ R2 = 142 := by
              have := HRf.out
              rw [hsc, hE] at this
              exact ⟨(Prod.mk.inj this).1, (Prod.mk.inj this).2⟩
            obtain ⟨rfl, rfl⟩ := hRR
            clear hsc hE HRf HEk hid hrf
            go_wp2_with fail
            rw [← hs] at y9 ⊢
            refine hfn.mono ?_
            rintro e wz ⟨rfl, hb⟩
            have HBz : Hid (Below w.heap.size w wz) := (HX.out.on (HB.out.trans (hb.mono HB.out.size))).below
            clear hb hfn y0 y1 y2 y3 y4 y5 y6 y7 y8 y9 y10 z0
            go_wp2
            go_ret2
            exact ⟨rfl, HBz.out⟩
          · cases hq : ((x.id : Int) / 8 % 4294967296 == (m.ref : Int) / 8 % 4294967296)
            · have hne : ¬ (x.id / 8 = m.ref / 8) := fun e => by
                have := beq_eq_false_iff_ne.1 hq
                exact this (by omega)
              have hE : Lq.eFind m k = 0 := by rw [HEk.out, if_neg (fun h => h.elim hv hne)]
              have HF2 : Hid (∀ j, j < k + 1 → Lq.eFind m j = 0) := Lq.upto HF.out hE
              clear hE HEk hid hrf hne
              go_wp2_with fail
              rw [← hs] at y9 ⊢
              refine hfn.mono ?_
              rintro e wz ⟨rfl, hb⟩
              have HBz : Hid (Below wB.heap.size wB wz) := HB.out.trans (hb.mono HB.out.size)
              have y7z := HY7.out _ hb
              clear hb hfn y0 y1 y2 y3 y4 y5 y6 y7 y8 y9 y10 z0
              go_wp2_with fail
              go_roundw
              case rel => exact ⟨k + 1, by omega, rfl, HBz, HF2⟩
              case measure => simp only [intOf]; omega
            · have he : x.id / 8 = m.ref / 8 := by
                have := beq_iff_eq.1 hq
                omega
              have hE : Lq.eFind m k = 142 := by rw [HEk.out, if_pos (Or.inr he)]
              have hsc := Lq.scan_some (f := Lq.eFind m) (j := k) (n := m.messages.length) (k := 0) (by rw [hE]; decide) (Nat.zero_le _) (by omega) (fun i _ h => HF.out i h)
              have hRR : R1 = (k : Int) ∧ R2 = 142 := by
                have := HRf.out
                rw [hsc, hE] at this
                exact ⟨(Prod.mk.inj this).1, (Prod.mk.inj this).2⟩
              obtain ⟨rfl, rfl⟩ := hRR
              clear hsc hE HRf HEk hid hrf he
              go_wp2_with fail
              rw [← hs] at y9 ⊢
              refine hfn.mono ?_
              rintro e wz ⟨rfl, hb⟩
              have HBz : Hid (Below w.heap.size w wz) := (HX.out.on (HB.out.trans (hb.mono HB.out.size))).below
              have y7z := HY7.out _ hb
              clear hb hfn y0 y1 y2 y3 y4 y5 y6 y7 y8 y9 y10 z0
              go_wp2
              go_ret2
              exact ⟨rfl, HBz.out⟩
        · have ki : ¬ ((k : Int) < (m.messages.length : Int)) := by omega
          have hRR : R1 = 0 ∧ R2 = 0 := by
            have := HRf.out
            rw [Lq.scan_none (fun j _ hj => HF.out j (by omega))] at this
            exact ⟨(Prod.mk.inj this).1, (Prod.mk.inj this).2⟩
          obtain ⟨rfl, rfl⟩ := hRR
          have HBz : Hid (Below w.heap.size w wr) := (HX.out.on HB.out).below
          go_wp2
          go_ret2
          exact ⟨rfl, HBz.out⟩
end Go.Proofs.YtnbfnipdiffphaaDoor
/- Layer 14: the document's Check. -/
namespace Go.Proofs.YtnbfnipdiffphaaDoor
open Go.RowKit Go.WideShapes
set_option linter.unusedVariables false
set_option maxRecDepth 100000 in
set_option maxHeartbeats 4000000 in
theorem rcheck_any (w : World) (m : Mx.M) (a : Ma) (hm : MIn w m a) (hS : Mx.Small m) (hwf : Mx.Wf m) : Calls Tryd.prog 18 #[mV m a] w fun e w' => e = .returned (.tuple #[.int .i64 (Lq.check m).1, .int .i64 (Lq.check m).2]) ∧ Below w.heap.size w w' := by
  have HX : Hid (Bx w (w.alloc (.cells (mCs m a) 27)) w.heap.size m a) := Bx.mk' hm
  have hl := hS.a
  have hl2 := hS.b
  have hl3 := hS.c
  have l1 : (m.masters.length : Int) ≤ 1000 := by omega
  have l2 : (m.messages.length : Int) ≤ 1000 := by omega
  have l3 : (m.windows.length : Int) ≤ 1000 := by omega
  have HS : Hid (Mx.Small m) := hS
  have HWf : Hid (Mx.Wf m) := hwf
  obtain ⟨R1, hR1⟩ : ∃ R1, (Lq.check m).1 = R1 := ⟨_, rfl⟩
  obtain ⟨R2, hR2⟩ : ∃ R2, (Lq.check m).2 = R2 := ⟨_, rfl⟩
  rw [hR1, hR2]
  have HRe : Hid ((R1, R2) = Lq.check m) := by show _ = _; rw [← hR1, ← hR2]
  clear hm hS hwf hR1 hR2 hl hl2 hl3
  obtain ⟨y0, y1, y2, y3, y4, y5, y6, y7, y8, y9, y10⟩ := HX.out.row.mat
  go_enter Tryd.func18, Tryd.ntmps18
  go_wp2_with fail
  refine (ris_any _ m a HX.out.mem HS.out).mono ?_
  rintro e wB ⟨rfl, hb⟩
  replace HX : Hid (Bx w wB w.heap.size m a) := HX.out.on hb
  clear y0 y1 y2 y3 y4 y5 y6 y7 y8 y9 y10 hb
  have HR : Hid (∀ w', Below wB.heap.size wB w' → RowT 27 w' w.heap.size (mCs m a)) := fun w' hb => (HX.out.on hb).row
  cases hi : Mx.is m
  · have hRR : R1 = 0 ∧ R2 = 120 := by
      have := HRe.out
      unfold Lq.check at this
      rw [hi, if_pos rfl] at this
      exact ⟨(Prod.mk.inj this).1, (Prod.mk.inj this).2⟩
    obtain ⟨rfl, rfl⟩ := hRR
    go_wp2
    go_ret2
    exact ⟨rfl, HX.out.below⟩
  have HI : Hid (Mx.is m = true) := hi
  have HStp : Hid (∀ w', Below wB.heap.size wB w' → Calls Tryd.prog 22 #[mV m a] w' fun e w'' => e = .returned (.int .i64 (Lq.step m)) ∧ Below w'.heap.size w' w'') := fun w' hb => rstep_any w' m a (HX.out.on hb).mem HS.out HWf.out
  have HRe2 : Hid ((R1, R2) = if m.length < Lq.step m then (0, 140) else Lq.orElse (Lq.scan (Lq.eMaster m) m.masters.length 0) (Lq.orElse (Lq.scan (Lq.eOwner m) m.messages.length 0) (Lq.orElse (Lq.twice m) (Lq.scan (Lq.eWin m) m.windows.length 0)))) := by
    show _ = _
    rw [HRe.out]
    unfold Lq.check
    rw [hi, if_neg (by simp)]
  clear HRe hi
  have HWn : Hid (∀ w' (k : Nat), Below wB.heap.size wB w' → k < m.windows.length → Calls Tryd.prog 31 #[mV m a, .int .i64 (k : Int)] w' fun e w'' => e = .returned (.int .i64 (Lq.eWin m k)) ∧ Below w'.heap.size w' w'') := fun w' k hb hk => rwindow_any w' m a k (HX.out.on hb).mem HS.out HWf.out HI.out hk
  have HTw : Hid (∀ w', Below wB.heap.size wB w' → Calls Tryd.prog 30 #[mV m a] w' fun e w'' => e = .returned (.tuple #[.int .i64 (Lq.twice m).1, .int .i64 (Lq.twice m).2]) ∧ Below w'.heap.size w' w'') := fun w' hb => rtwice_any w' m a (HX.out.on hb).mem HS.out HWf.out
  generalize Lq.step m = V at *
  by_cases hv : m.length < V
  · have hRR : R1 = 0 ∧ R2 = 140 := by
      have := HRe2.out
      rw [if_pos hv] at this
      exact ⟨(Prod.mk.inj this).1, (Prod.mk.inj this).2⟩
    obtain ⟨rfl, rfl⟩ := hRR
    clear HRe2
    go_wp2_with fail
    refine Lw.wp_region_quiet_below (by kernel_rfl) (by kernel_rfl) ?_
    repeat (first
      | go_big_quiet_skip
      | (go_big_quiet_want; go_big_quiet_op; go_big_quiet_on)
      | (go_big_quiet_want; go_big_quiet_op; apply Exists.intro; refine ⟨fun _ hb' => ?_, ?_⟩; (first
        | exact Lw.val_rfl _
        | (go_at_call 22; exact Lw.calls_below hb' (HStp.out _ hb'))
        | (simp [go_sem, (HR.out _ hb').mat.2.2.2.1]; rfl)
        | (simp [go_sem, (HR.out _ hb').mat.1, (HR.out _ hb').mat.2.1, (HR.out _ hb').mat.2.2.1, (HR.out _ hb').mat.2.2.2.1, (HR.out _ hb').mat.2.2.2.2.1, (HR.out _ hb').mat.2.2.2.2.2.1, (HR.out _ hb').mat.2.2.2.2.2.2.1, (HR.out _ hb').mat.2.2.2.2.2.2.2.1, (HR.out _ hb').mat.2.2.2.2.2.2.2.2.1, (HR.out _ hb').mat.2.2.2.2.2.2.2.2.2.1, (HR.out _ hb').mat.2.2.2.2.2.2.2.2.2.2]; rfl)); go_big_quiet_on))
    refine wpQuiet_nil ?_
    intro wz hbz
    have HBz : Hid (Below w.heap.size w wz) := (HX.out.on hbz).below
    clear hbz
    go_wp2
    go_ret2
    exact ⟨rfl, HBz.out⟩
  have HRe3 : Hid ((R1, R2) = Lq.orElse (Lq.scan (Lq.eMaster m) m.masters.length 0) (Lq.orElse (Lq.scan (Lq.eOwner m) m.messages.length 0) (Lq.orElse (Lq.twice m) (Lq.scan (Lq.eWin m) m.windows.length 0)))) := by show _ = _; rw [HRe2.out, if_neg hv]
  clear HRe2
  go_wp2_with fail
  refine Lw.wp_region_quiet_below (by kernel_rfl) (by kernel_rfl) ?_
  repeat (first
    | go_big_quiet_skip
    | (go_big_quiet_want; go_big_quiet_op; go_big_quiet_on)
    | (go_big_quiet_want; go_big_quiet_op; apply Exists.intro; refine ⟨fun _ hb' => ?_, ?_⟩; (first
      | exact Lw.val_rfl _
      | (go_at_call 22; exact Lw.calls_below hb' (HStp.out _ hb'))
      | (simp [go_sem, (HR.out _ hb').mat.2.2.2.1]; rfl)
      | (simp [go_sem, (HR.out _ hb').mat.1, (HR.out _ hb').mat.2.1, (HR.out _ hb').mat.2.2.1, (HR.out _ hb').mat.2.2.2.1, (HR.out _ hb').mat.2.2.2.2.1, (HR.out _ hb').mat.2.2.2.2.2.1, (HR.out _ hb').mat.2.2.2.2.2.2.1, (HR.out _ hb').mat.2.2.2.2.2.2.2.1, (HR.out _ hb').mat.2.2.2.2.2.2.2.2.1, (HR.out _ hb').mat.2.2.2.2.2.2.2.2.2.1, (HR.out _ hb').mat.2.2.2.2.2.2.2.2.2.2]; rfl)); go_big_quiet_on))
  refine wpQuiet_nil ?_
  intro wz hbz
  have HB0 : Hid (Below wB.heap.size wB wz) := hbz
  clear hbz HStp
  go_wp2_with fail
  clear hv
  go_loopw [4] (fun vi wr => ∃ k : Nat, k ≤ m.masters.length ∧ vi = .int .i64 (k : Int) ∧ Hid (Below wB.heap.size wB wr) ∧ Hid (∀ j, j < k → Lq.eMaster m j = 0)) (fun vi _ => m.masters.length - (intOf vi).toNat)
  case atStart => exact ⟨0, Nat.zero_le _, rfl, HB0, fun c hc => absurd hc (Nat.not_lt_zero _)⟩
  case round =>
    clear HB0
    obtain ⟨k, hk, rfl, HB, HF⟩ := hrel
    have y8 := (HR.out _ HB.out).mat.2.2.2.2.2.2.2.2.1
    by_cases hkl : k < m.masters.length
    · have ki : (k : Int) < (m.masters.length : Int) := by omega
      obtain ⟨x, hx⟩ : ∃ x, m.masters[k]? = some x := ⟨_, List.getElem?_eq_getElem hkl⟩
      obtain ⟨g, o, hs, _, _⟩ := HX.out.mem.master hx
      have HC : Hid (∀ w', Below wr.heap.size wr w' → w'.cell? ⟨w.heap.size, 8, none⟩ = some (.slice (some ⟨g, o, none⟩) m.masters.length a.c1) ∧ w'.cell? ⟨g, o + k, none⟩ = some (.int .i64 x) ∧ w'.cell? ⟨w.heap.size, 1, none⟩ = some (.int .i64 m.nodes)) := fun w' hb => by
        have hb2 := HB.out.trans (hb.mono HB.out.size)
        have h8 := (HR.out _ hb2).mat.2.2.2.2.2.2.2.2.1
        obtain ⟨g1, o1, e1, _, q⟩ := (HX.out.on hb2).mem.master hx
        rw [hs] at e1 h8
        injection e1 with e1
        injection e1 with e1 e1o
        subst e1 e1o
        exact ⟨h8, q, (HR.out _ hb2).mat.2.1⟩
      have HEk : Hid (Lq.eMaster m k = if m.nodes ≤ x then 141 else 0) := by show _ = _; unfold Lq.eMaster; rw [hx]
      rw [hs] at y8
      clear hs hx
      by_cases hv : m.nodes ≤ x
      · have hE : Lq.eMaster m k = 141 := by rw [HEk.out, if_pos hv]
        have hsc := Lq.scan_some (f := Lq.eMaster m) (j := k) (n := m.masters.length) (k := 0) (by rw [hE]; decide) (Nat.zero_le _) (by omega) (fun i _ h => HF.out i h)
        have hRR : R1 = (k : Int) ∧ R2 = 141 := by
          have := HRe3.out
          rw [hsc, hE, Lq.orElse_some (by show (141 : Int) ≠ 0; decide)] at this
          exact ⟨(Prod.mk.inj this).1, (Prod.mk.inj this).2⟩
        obtain ⟨rfl, rfl⟩ := hRR
        clear hsc hE HRe3 HEk
        go_wp2_with fail
        refine Lw.wp_region_quiet_below (by kernel_rfl) (by kernel_rfl) ?_
        repeat (first
          | go_big_quiet_skip
          | (go_big_quiet_want; go_big_quiet_op; go_big_quiet_on)
          | (go_big_quiet_want; go_big_quiet_op; apply Exists.intro; refine ⟨fun _ hb' => ?_, ?_⟩; (first
            | exact Lw.val_rfl _
            | (simp [go_sem, (HC.out _ hb').1]; rfl)
            | (simp [go_sem, (HC.out _ hb').2.1]; rfl)
            | (simp [go_sem, (HC.out _ hb').2.2]; rfl)); go_big_quiet_on))
        refine wpQuiet_nil ?_
        intro wz hbz
        have HBz : Hid (Below w.heap.size w wz) := (HX.out.on (HB.out.trans (hbz.mono HB.out.size))).below
        clear hbz
        go_wp2
        go_ret2
        exact ⟨rfl, HBz.out⟩
      · have hE : Lq.eMaster m k = 0 := by rw [HEk.out, if_neg hv]
        have HF2 : Hid (∀ j, j < k + 1 → Lq.eMaster m j = 0) := Lq.upto HF.out hE
        clear hE HEk
        go_wp2_with fail
        refine Lw.wp_region_quiet_below (by kernel_rfl) (by kernel_rfl) ?_
        repeat (first
          | go_big_quiet_skip
          | (go_big_quiet_want; go_big_quiet_op; go_big_quiet_on)
          | (go_big_quiet_want; go_big_quiet_op; apply Exists.intro; refine ⟨fun _ hb' => ?_, ?_⟩; (first
            | exact Lw.val_rfl _
            | (simp [go_sem, (HC.out _ hb').1]; rfl)
            | (simp [go_sem, (HC.out _ hb').2.1]; rfl)
            | (simp [go_sem, (HC.out _ hb').2.2]; rfl)); go_big_quiet_on))
        refine wpQuiet_nil ?_
        intro wz hbz
        have HBz : Hid (Below wB.heap.size wB wz) := HB.out.trans (hbz.mono HB.out.size)
        clear hbz
        go_wp2_with fail
        go_roundw
        case rel => exact ⟨k + 1, by omega, rfl, HBz, HF2⟩
        case measure => simp only [intOf]; omega
    · have ki : ¬ ((k : Int) < (m.masters.length : Int)) := by omega
      have HRf : Hid ((R1, R2) = Lq.orElse (Lq.scan (Lq.eOwner m) m.messages.length 0) (Lq.orElse (Lq.twice m) (Lq.scan (Lq.eWin m) m.windows.length 0))) := by
        show _ = _
        rw [HRe3.out, Lq.scan_none (f := Lq.eMaster m) (fun j _ hj => HF.out j (by omega))]
        rfl
      clear HRe3 HF
      go_wp2_with fail
      clear y8
      go_loopw [5] (fun vi wr => ∃ k : Nat, k ≤ m.messages.length ∧ vi = .int .i64 (k : Int) ∧ Hid (Below wB.heap.size wB wr) ∧ Hid (∀ j, j < k → Lq.eOwner m j = 0)) (fun vi _ => m.messages.length - (intOf vi).toNat)
      case atStart => exact ⟨0, Nat.zero_le _, rfl, HB, fun c hc => absurd hc (Nat.not_lt_zero _)⟩
      case round =>
        clear HB ki hk hkl
        obtain ⟨k, hk, rfl, HB, HF⟩ := hrel
        have y9 := (HR.out _ HB.out).mat.2.2.2.2.2.2.2.2.2.1
        by_cases hkl : k < m.messages.length
        · have ki : (k : Int) < (m.messages.length : Int) := by omega
          obtain ⟨x, hx⟩ : ∃ x, m.messages[k]? = some x := ⟨_, List.getElem?_eq_getElem hkl⟩
          obtain ⟨g, o, hs, _⟩ := HX.out.mem.message hx
          have HC : Hid (∀ w', Below wr.heap.size wr w' → w'.cell? ⟨w.heap.size, 9, none⟩ = some (.slice (some ⟨g, o, none⟩) m.messages.length a.c2) ∧ w'.cell? ⟨g, o + k * 3 + 1, none⟩ = some (.int .i64 x.owner) ∧ w'.cell? ⟨w.heap.size, 1, none⟩ = some (.int .i64 m.nodes)) := fun w' hb => by
            have hb2 := HB.out.trans (hb.mono HB.out.size)
            have h8 := (HR.out _ hb2).mat.2.2.2.2.2.2.2.2.2.1
            obtain ⟨g1, o1, e1, _, _, q, _⟩ := (HX.out.on hb2).mem.message hx
            rw [hs] at e1 h8
            injection e1 with e1
            injection e1 with e1 e1o
            subst e1 e1o
            exact ⟨h8, q, (HR.out _ hb2).mat.2.1⟩
          have HEk : Hid (Lq.eOwner m k = if m.nodes ≤ x.owner then 141 else 0) := by show _ = _; unfold Lq.eOwner; rw [hx]
          rw [hs] at y9
          clear hs hx
          by_cases hv : m.nodes ≤ x.owner
          · have hE : Lq.eOwner m k = 141 := by rw [HEk.out, if_pos hv]
            have hsc := Lq.scan_some (f := Lq.eOwner m) (j := k) (n := m.messages.length) (k := 0) (by rw [hE]; decide) (Nat.zero_le _) (by omega) (fun i _ h => HF.out i h)
            have hRR : R1 = (k : Int) ∧ R2 = 141 := by
              have := HRf.out
              rw [hsc, hE, Lq.orElse_some (by show (141 : Int) ≠ 0; decide)] at this
              exact ⟨(Prod.mk.inj this).1, (Prod.mk.inj this).2⟩
            obtain ⟨rfl, rfl⟩ := hRR
            clear hsc hE HRf HEk
            go_wp2_with fail
            refine Lw.wp_region_quiet_below (by kernel_rfl) (by kernel_rfl) ?_
            repeat (first
              | go_big_quiet_skip
              | (go_big_quiet_want; go_big_quiet_op; go_big_quiet_on)
              | (go_big_quiet_want; go_big_quiet_op; apply Exists.intro; refine ⟨fun _ hb' => ?_, ?_⟩; (first
                | exact Lw.val_rfl _
                | (simp [go_sem, (HC.out _ hb').1]; rfl)
                | (simp [go_sem, (HC.out _ hb').2.1]; rfl)
                | (simp [go_sem, (HC.out _ hb').2.2]; rfl)); go_big_quiet_on))
            refine wpQuiet_nil ?_
            intro wz hbz
            have HBz : Hid (Below w.heap.size w wz) := (HX.out.on (HB.out.trans (hbz.mono HB.out.size))).below
            clear hbz
            go_wp2
            go_ret2
            exact ⟨rfl, HBz.out⟩
          · have hE : Lq.eOwner m k = 0 := by rw [HEk.out, if_neg hv]
            have HF2 : Hid (∀ j, j < k + 1 → Lq.eOwner m j = 0) := Lq.upto HF.out hE
            clear hE HEk
            go_wp2_with fail
            refine Lw.wp_region_quiet_below (by kernel_rfl) (by kernel_rfl) ?_
            repeat (first
              | go_big_quiet_skip
              | (go_big_quiet_want; go_big_quiet_op; go_big_quiet_on)
              | (go_big_quiet_want; go_big_quiet_op; apply Exists.intro; refine ⟨fun _ hb' => ?_, ?_⟩; (first
                | exact Lw.val_rfl _
                | (simp [go_sem, (HC.out _ hb').1]; rfl)
                | (simp [go_sem, (HC.out _ hb').2.1]; rfl)
                | (simp [go_sem, (HC.out _ hb').2.2]; rfl)); go_big_quiet_on))
            refine wpQuiet_nil ?_
            intro wz hbz
            have HBz : Hid (Below wB.heap.size wB wz) := HB.out.trans (hbz.mono HB.out.size)
            clear hbz
            go_wp2_with fail
            go_roundw
            case rel => exact ⟨k + 1, by omega, rfl, HBz, HF2⟩
            case measure => simp only [intOf]; omega
        · have ki : ¬ ((k : Int) < (m.messages.length : Int)) := by omega
          have HRg : Hid ((R1, R2) = Lq.orElse (Lq.twice m) (Lq.scan (Lq.eWin m) m.windows.length 0)) := by
            show _ = _
            rw [HRf.out, Lq.scan_none (f := Lq.eOwner m) (fun j _ hj => HF.out j (by omega))]
            rfl
          clear HRf HF
          have htw := HTw.out _ HB.out
          obtain ⟨y0, y1, y2, y3, y4, y5, y6, y7, y8, y9', y10⟩ := (HR.out _ HB.out).mat
          obtain ⟨T1, hT1⟩ : ∃ T1, (Lq.twice m).1 = T1 := ⟨_, rfl⟩
          obtain ⟨T2, hT2⟩ : ∃ T2, (Lq.twice m).2 = T2 := ⟨_, rfl⟩
          rw [hT1, hT2] at htw
          go_wp2_with fail
          refine htw.mono ?_
          rintro e wt ⟨rfl, hb⟩
          have HBt : Hid (Below wB.heap.size wB wt) := HB.out.trans (hb.mono HB.out.size)
          clear y0 y1 y2 y3 y4 y5 y6 y7 y8 y9' y10 y9 hb htw HB
          cases ht : (T2 != 0)
          · have h0 : (Lq.twice m).2 = 0 := by rw [hT2]; simpa [bne] using ht
            have HRh : Hid ((R1, R2) = Lq.scan (Lq.eWin m) m.windows.length 0) := by show _ = _; rw [HRg.out, Lq.orElse_zero h0]
            clear HRg hT1 hT2 h0
            go_wp2_with fail
            go_loopw [8, 9] (fun vi _v wr => ∃ k : Nat, k ≤ m.windows.length ∧ vi = .int .i64 (k : Int) ∧ Hid (Below wB.heap.size wB wr) ∧ Hid (∀ j, j < k → Lq.eWin m j = 0)) (fun vi _ _ => m.windows.length - (intOf vi).toNat)
            case atStart => exact ⟨0, Nat.zero_le _, rfl, HBt, fun c hc => absurd hc (Nat.not_lt_zero _)⟩
            case round =>
              clear HBt ki hk hkl
              obtain ⟨k, hk, rfl, HB, HF⟩ := hrel
              obtain ⟨y0, y1, y2, y3, y4, y5, y6, y7, y8, y9, y10⟩ := (HR.out _ HB.out).mat
              by_cases hkl : k < m.windows.length
              · have ki : (k : Int) < (m.windows.length : Int) := by omega
                have hwn := HWn.out wr k HB.out hkl
                obtain ⟨E, hE⟩ : ∃ E, Lq.eWin m k = E := ⟨_, rfl⟩
                rw [hE] at hwn
                go_wp2_with fail
                refine hwn.mono ?_
                rintro e wz ⟨rfl, hb⟩
                have HBz : Hid (Below wB.heap.size wB wz) := HB.out.trans (hb.mono HB.out.size)
                clear y0 y1 y2 y3 y4 y5 y6 y7 y8 y9 y10 hb hwn
                cases he : (E != 0)
                · have hE0 : Lq.eWin m k = 0 := by rw [hE]; simpa [bne] using he
                  have HF2 : Hid (∀ j, j < k + 1 → Lq.eWin m j = 0) := Lq.upto HF.out hE0
                  clear hE hE0
                  go_wp2_with fail
                  go_roundw
                  case rel => exact ⟨k + 1, by omega, rfl, HBz, HF2⟩
                  case measure => simp only [intOf]; omega
                · have hE0 : Lq.eWin m k ≠ 0 := by rw [hE]; simpa [bne] using he
                  have hsc := Lq.scan_some (f := Lq.eWin m) (j := k) (n := m.windows.length) (k := 0) hE0 (Nat.zero_le _) (by omega) (fun i _ h => HF.out i h)
                  have hRR : R1 = (k : Int) ∧ R2 = E := by
                    have := HRh.out
                    rw [hsc, hE] at this
                    exact ⟨(Prod.mk.inj this).1, (Prod.mk.inj this).2⟩
                  obtain ⟨rfl, rfl⟩ := hRR
                  have HBw : Hid (Below w.heap.size w wz) := (HX.out.on HBz.out).below
                  clear hE hE0 hsc HRh
                  go_wp2
                  go_ret2
                  exact ⟨rfl, HBw.out⟩
              · have ki : ¬ ((k : Int) < (m.windows.length : Int)) := by omega
                have hRR : R1 = 0 ∧ R2 = 0 := by
                  have := HRh.out
                  rw [Lq.scan_none (fun j _ hj => HF.out j (by omega))] at this
                  exact ⟨(Prod.mk.inj this).1, (Prod.mk.inj this).2⟩
                obtain ⟨rfl, rfl⟩ := hRR
                have HBz : Hid (Below w.heap.size w wr) := (HX.out.on HB.out).below
                go_wp2
                go_ret2
                exact ⟨rfl, HBz.out⟩
          · have h0 : (Lq.twice m).2 ≠ 0 := by rw [hT2]; simpa [bne] using ht
            have hRR : R1 = T1 ∧ R2 = T2 := by
              have := HRg.out
              rw [Lq.orElse_some h0] at this
              exact ⟨(congrArg Prod.fst this).trans hT1, (congrArg Prod.snd this).trans hT2⟩
            obtain ⟨rfl, rfl⟩ := hRR
            have HBz : Hid (Below w.heap.size w wt) := (HX.out.on HBt.out).below
            clear hT1 hT2 h0 HRg
            go_wp2
            go_ret2
            exact ⟨rfl, HBz.out⟩
end Go.Proofs.YtnbfnipdiffphaaDoor
