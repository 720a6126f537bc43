/- Layer 14: the document's Meet. -/
import Derived.Test.YtnbfnipdiffphaaDoorBc
import Derived.Test.YtnbfnipdiffphaaDoorLq
import Derived.Test.YtnbfnipdiffphaaDoorHl
import Derived.Deep.RegionHeld3
import Derived.Deep.CutBlock
import Derived.WalkArith
import Derived.WalkSpells
namespace Go.Proofs.YtnbfnipdiffphaaDoor
open Go.RowKit Go.WideShapes
set_option linter.unusedVariables false
theorem Hl.step_store_row {P : Program} {ops : Array Oper} {o : Oper} {a : Act} {w : World} {K : Act → World → Prop} {Q : Exit → Act → World → Prop} {X : Prop} (hgd : o.guard = none) (ty : TypeId) (x y : Operand) (ho : o.op = .store ty x y)
    (g : Nat) (cells : Array Value) (hx : a.eval x = .pointer (some ⟨g, 0, none⟩)) (hy : a.eval y = .agg cells) (t : TypeId) (old : Array Value) (hg : w.heap[g]? = some (.cells old t (0, 0))) (hi : (P.info? ty).map (·.size) = some cells.size)
    (hold : old.size = cells.size) (h1 : cells.all (·.oneCell') = true) (h : K (a.put o.dst undef) (w.setRow g cells)) : if Region.wanted o (yielded ops a.tmps) = true then Oper.wp P o a w K Q else X := by
  have hw : Region.wanted o (yielded ops a.tmps) = true := by simp [Region.wanted, hgd]
  rw [if_pos hw]
  exact wp_store_row ty x y ho g cells hx hy t old hg hi hold h1 h
theorem winfo14 : (Tryd.prog.info? 58).map (·.size) = some 6 := by kernel_rfl
theorem mc3_one (x : Mx.Win) : (mC3 x).toArray.all (·.oneCell') = true := by simp [mC3, Value.oneCell']
theorem Lq.upto_b {f : Nat → Bool} {k : Nat} (h : ∀ j, j < k → f j = false) (hk : f k = false) : ∀ j, j < k + 1 → f j = false := fun j hj => by
  rcases Nat.lt_or_eq_of_le (Nat.le_of_lt_succ hj) with h1 | h1
  · exact h j h1
  · rw [h1]; exact hk
theorem Lq.any_none {f : Nat → Bool} {n : Nat} (h : ∀ c, c < n → f c = false) : (List.range n).any f = false := by
  rw [List.any_eq_false]
  intro c hc
  rw [h c (List.mem_range.1 hc)]
  simp
theorem Lq.getW_none {m : Mx.M} {i : Int} (h : Mx.within i 0 ((m.windows.length : Int) - 1) = false) : Lq.getW m i = none := by
  unfold Lq.getW
  split
  · refine List.getElem?_eq_none ?_
    unfold Mx.within at h
    simp at h
    omega
  · rfl
theorem Lq.getW_some {m : Mx.M} {i : Int} (h : Mx.within i 0 ((m.windows.length : Int) - 1) = true) : ∃ (k : Nat) (x : Mx.Win), i = (k : Int) ∧ k < m.windows.length ∧ m.windows[k]? = some x ∧ Lq.getW m i = some x := by
  rw [Pq.within_iff] at h
  obtain ⟨k, rfl⟩ := Int.eq_ofNat_of_zero_le h.1
  have hk : k < m.windows.length := by omega
  refine ⟨k, m.windows[k], rfl, hk, List.getElem?_eq_getElem hk, ?_⟩
  unfold Lq.getW
  rw [if_pos h.1, Int.toNat_natCast]
  exact List.getElem?_eq_getElem hk
set_option maxRecDepth 100000 in
set_option maxHeartbeats 4000000 in
theorem rmeet_any (w : World) (m : Mx.M) (a : Ma) (i0 j0 : Int) (hm : MIn w m a) (hS : Mx.Small m) (hwf : Mx.Wf m) : Calls Tryd.prog 40 #[mV m a, .int .i64 i0, .int .i64 j0] w fun e w' => e = .returned (.bool (Lq.meet m i0 j0)) ∧ Below w.heap.size w w' := by
  have HX : Hid (Bx w (w.alloc (.cells (mCs m a) 27)) w.heap.size m a) := Bx.mk' hm
  have hl := hS.c
  have hl1 : (m.windows.length : Int) ≤ 1000 := by omega
  have y10 := HX.out.row.mat.2.2.2.2.2.2.2.2.2.2
  have hW1 : ∀ (w1 : World) (n hi : Int), Calls Tryd.prog 37 #[.int .i64 n, .int .i64 0, .int .i64 hi] w1 fun e w' => e = .returned (.bool (Mx.within n 0 hi)) ∧ w' = w1 := fun w1 n hi => rwithin_any w1 n 0 hi
  have HW1 : Hid (_) := hW1
  show Calls _ _ #[.agg (mCs m a), _, _] _ _
  clear hm hS hl hW1
  obtain ⟨R, hR⟩ : ∃ R, Lq.meet m i0 j0 = R := ⟨_, rfl⟩
  rw [hR]
  generalize mCs m a = cs at HX y10 ⊢
  cases h1 : Mx.within i0 0 ((m.windows.length : Int) - 1)
  · have hR0 : R = false := by rw [← hR, Lq.meet, Lq.getW_none h1]
    clear hR
    go_enter Tryd.func40, Tryd.ntmps40
    go_wp2_with fail
    refine (HW1.out _ _ _).mono ?_
    rintro e w9 ⟨rfl, rfl⟩
    rw [h1]
    go_wp2
    go_ret
    exact ⟨by rw [hR0]; rfl, HX.out.below⟩
  · cases h2 : Mx.within j0 0 ((m.windows.length : Int) - 1)
    · have hR0 : R = false := by
        rw [← hR, Lq.meet, Lq.getW_none h2]
        cases Lq.getW m i0 <;> rfl
      clear hR
      go_enter Tryd.func40, Tryd.ntmps40
      go_wp2_with fail
      refine (HW1.out _ _ _).mono ?_
      rintro e w9 ⟨rfl, rfl⟩
      rw [h1]
      go_wp2_with fail
      refine (HW1.out _ _ _).mono ?_
      rintro e w9 ⟨rfl, rfl⟩
      rw [h2]
      go_wp2
      go_ret
      exact ⟨by rw [hR0]; rfl, HX.out.below⟩
    · obtain ⟨i, x, rfl, hi, hx, hgx⟩ := Lq.getW_some h1
      obtain ⟨j, y, rfl, hj, hy, hgy⟩ := Lq.getW_some h2
      have HRe : Hid (R = Lq.meetW m.cycles x y) := by show R = _; rw [← hR, Lq.meet, hgx, hgy]
      have HWx : Hid ((Lit.int .i64 x.cycle).wf = true) := (hwf.windows x (List.mem_of_getElem? hx)).2.2.2.1
      have HWy : Hid ((Lit.int .i64 y.cycle).wf = true) := (hwf.windows y (List.mem_of_getElem? hy)).2.2.2.1
      obtain ⟨gw, ow, hs, _⟩ := HX.out.mem.window hx
      have ii : (i : Int) < (m.windows.length : Int) := by omega
      have jj : (j : Int) < (m.windows.length : Int) := by omega
      clear hR hgx hgy hwf hi hj
      go_enter Tryd.func40, Tryd.ntmps40
      go_wp2_with fail
      refine (HW1.out _ _ _).mono ?_
      rintro e w9 ⟨rfl, rfl⟩
      rw [h1]
      go_wp2_with fail
      refine (HW1.out _ _ _).mono ?_
      rintro e w9 ⟨rfl, rfl⟩
      rw [h2]
      generalize w.alloc (.cells cs 27) = wB at HX y10 ⊢
      clear h1 h2 y10 HW1
      have HC : Hid (∀ w', Below wB.heap.size wB w' → w'.cell? ⟨w.heap.size, 10, none⟩ = some (.slice (some ⟨gw, ow, none⟩) m.windows.length a.c3) ∧ (w'.cell? ⟨gw, ow + i * 6, none⟩ = some (.int .i64 x.kind) ∧ w'.cell? ⟨gw, ow + i * 6 + 1, none⟩ = some (.int .i64 x.start) ∧ w'.cell? ⟨gw, ow + i * 6 + 2, none⟩ = some (.int .i64 x.fin) ∧ w'.cell? ⟨gw, ow + i * 6 + 3, none⟩ = some (.int .i64 x.cycle) ∧ w'.cell? ⟨gw, ow + i * 6 + 4, none⟩ = some (.int .i64 x.rep) ∧ w'.cell? ⟨gw, ow + i * 6 + 5, none⟩ = some (.int .i64 x.msg)) ∧ (w'.cell? ⟨gw, ow + j * 6, none⟩ = some (.int .i64 y.kind) ∧ w'.cell? ⟨gw, ow + j * 6 + 1, none⟩ = some (.int .i64 y.start) ∧ w'.cell? ⟨gw, ow + j * 6 + 2, none⟩ = some (.int .i64 y.fin) ∧ w'.cell? ⟨gw, ow + j * 6 + 3, none⟩ = some (.int .i64 y.cycle) ∧ w'.cell? ⟨gw, ow + j * 6 + 4, none⟩ = some (.int .i64 y.rep) ∧ w'.cell? ⟨gw, ow + j * 6 + 5, none⟩ = some (.int .i64 y.msg))) := fun w' hb => by
        have h10 := (HX.out.on hb).row.mat.2.2.2.2.2.2.2.2.2.2
        obtain ⟨g1, o1, e1, _, q⟩ := (HX.out.on hb).mem.window hx
        obtain ⟨g2, o2, e2, _, q2⟩ := (HX.out.on hb).mem.window hy
        rw [hs] at e1 e2 h10
        injection e1 with e1
        injection e1 with e1 e1o
        injection e2 with e2
        injection e2 with e2 e2o
        subst e1 e1o e2 e2o
        exact ⟨h10, q, q2⟩
      clear hs
      go_wp2_with fail
      go_cut [7, 8] from 26 (fun v7 v8 wx => ∃ q7 q8, v7 = Ob.ptr q7 ∧ v8 = Ob.ptr q8 ∧ Hid (RowT 58 wx q7 (mC3 x).toArray) ∧ Hid (RowT 58 wx q8 (mC3 y).toArray) ∧ Hid (Below wB.heap.size wB wx))
      case first =>
        refine wp_region_held_drew (S := fun w' => Below wB.heap.size wB w') (by kernel_rfl) (Below.refl _ _).drew (fun hHeld => ?_)
        refine Hl.takeL (i := 0) (d := 26) (v := ?_) rfl (by kernel_rfl) (by kernel_rfl) (by kernel_rfl) (fun _ _ _ h => h) (by rfl) ?_ (by first | assumption | trivial) ?_
        rotate_left
        · intro w hSw; obtain ⟨z10, ⟨x0, x1, x2, x3, x4, x5⟩, ⟨y0, y1, y2, y3, y4, y5⟩⟩ := HC.out _ hSw; go_simp; (try with_reducible rfl)
        simp only [Act.put, List.setIfInBounds_toArray, List.set_cons_zero, List.set_cons_succ]
        refine Hl.takeL (i := 1) (d := 27) (v := ?_) rfl (by kernel_rfl) (by kernel_rfl) (by kernel_rfl) (fun _ _ _ h => h) (by rfl) ?_ (by first | assumption | trivial) ?_
        rotate_left
        · intro w hSw; obtain ⟨z10, ⟨x0, x1, x2, x3, x4, x5⟩, ⟨y0, y1, y2, y3, y4, y5⟩⟩ := HC.out _ hSw; go_simp; (try with_reducible rfl)
        simp only [Act.put, List.setIfInBounds_toArray, List.set_cons_zero, List.set_cons_succ]
        refine Hl.takeL (i := 2) (d := 28) (v := ?_) rfl (by kernel_rfl) (by kernel_rfl) (by kernel_rfl) (fun _ _ _ h => h) (by rfl) ?_ (by first | assumption | trivial) ?_
        rotate_left
        · intro w hSw; obtain ⟨z10, ⟨x0, x1, x2, x3, x4, x5⟩, ⟨y0, y1, y2, y3, y4, y5⟩⟩ := HC.out _ hSw; go_simp; (try with_reducible rfl)
        simp only [Act.put, List.setIfInBounds_toArray, List.set_cons_zero, List.set_cons_succ]
        refine Hl.takeL (i := 3) (d := 29) (v := ?_) rfl (by kernel_rfl) (by kernel_rfl) (by kernel_rfl) (fun _ _ _ h => h) (by rfl) ?_ (by first | assumption | trivial) ?_
        rotate_left
        · intro w hSw; obtain ⟨z10, ⟨x0, x1, x2, x3, x4, x5⟩, ⟨y0, y1, y2, y3, y4, y5⟩⟩ := HC.out _ hSw; go_simp; (try with_reducible rfl)
        simp only [Act.put, List.setIfInBounds_toArray, List.set_cons_zero, List.set_cons_succ]
        refine Hl.takeL (i := 4) (d := 30) (v := ?_) rfl (by kernel_rfl) (by kernel_rfl) (by kernel_rfl) (fun _ _ _ h => h) (by rfl) ?_ (by first | assumption | trivial) ?_
        rotate_left
        · intro w hSw; obtain ⟨z10, ⟨x0, x1, x2, x3, x4, x5⟩, ⟨y0, y1, y2, y3, y4, y5⟩⟩ := HC.out _ hSw; go_simp; (try with_reducible rfl)
        simp only [Act.put, List.setIfInBounds_toArray, List.set_cons_zero, List.set_cons_succ]
        refine Hl.takeL (i := 5) (d := 31) (v := ?_) rfl (by kernel_rfl) (by kernel_rfl) (by kernel_rfl) (fun _ _ _ h => h) (by rfl) ?_ (by first | assumption | trivial) ?_
        rotate_left
        · intro w hSw; obtain ⟨z10, ⟨x0, x1, x2, x3, x4, x5⟩, ⟨y0, y1, y2, y3, y4, y5⟩⟩ := HC.out _ hSw; go_simp; (try with_reducible rfl)
        simp only [Act.put, List.setIfInBounds_toArray, List.set_cons_zero, List.set_cons_succ]
        refine Hl.takeL (i := 6) (d := 32) (v := ?_) rfl (by kernel_rfl) (by kernel_rfl) (by kernel_rfl) (fun _ _ _ h => h) (by rfl) ?_ (by first | assumption | trivial) ?_
        rotate_left
        · intro w hSw; obtain ⟨z10, ⟨x0, x1, x2, x3, x4, x5⟩, ⟨y0, y1, y2, y3, y4, y5⟩⟩ := HC.out _ hSw; go_simp; (try with_reducible rfl)
        simp only [Act.put, List.setIfInBounds_toArray, List.set_cons_zero, List.set_cons_succ]
        refine Hl.takeL (i := 7) (d := 33) (v := ?_) rfl (by kernel_rfl) (by kernel_rfl) (by kernel_rfl) (fun _ _ _ h => h) (by rfl) ?_ (by first | assumption | trivial) ?_
        rotate_left
        · intro w hSw; obtain ⟨z10, ⟨x0, x1, x2, x3, x4, x5⟩, ⟨y0, y1, y2, y3, y4, y5⟩⟩ := HC.out _ hSw; go_simp; (try with_reducible rfl)
        simp only [Act.put, List.setIfInBounds_toArray, List.set_cons_zero, List.set_cons_succ]
        refine Hl.takeL (i := 8) (d := 34) (v := ?_) rfl (by kernel_rfl) (by kernel_rfl) (by kernel_rfl) (fun _ _ _ h => h) (by rfl) ?_ (by first | assumption | trivial) ?_
        rotate_left
        · intro w hSw; obtain ⟨z10, ⟨x0, x1, x2, x3, x4, x5⟩, ⟨y0, y1, y2, y3, y4, y5⟩⟩ := HC.out _ hSw; go_simp; (try with_reducible rfl)
        simp only [Act.put, List.setIfInBounds_toArray, List.set_cons_zero, List.set_cons_succ]
        refine Hl.takeL (i := 9) (d := 35) (v := ?_) rfl (by kernel_rfl) (by kernel_rfl) (by kernel_rfl) (fun _ _ _ h => h) (by rfl) ?_ (by first | assumption | trivial) ?_
        rotate_left
        · intro w hSw; obtain ⟨z10, ⟨x0, x1, x2, x3, x4, x5⟩, ⟨y0, y1, y2, y3, y4, y5⟩⟩ := HC.out _ hSw; go_simp; (try with_reducible rfl)
        simp only [Act.put, List.setIfInBounds_toArray, List.set_cons_zero, List.set_cons_succ]
        refine Hl.consL2 (i := 10) (j := 11) rfl rfl (by kernel_rfl) (fun K' hK' => ?_) (fun K' hK' => ?_)
        · go_simp
          refine hK'.out _ _ (hHeld.alloc (Nat.le_refl _) _) (fun hHeld => ?_)
          clear hK' K'
          refine Hl.consL (i := 11) rfl (by kernel_rfl) (fun K' hK' => ?_)
          go_simp
          have hb2 : Below wB.heap.size wB ((wB.alloc (.cells #[.int .i64 0, .int .i64 0, .int .i64 0, .int .i64 0, .int .i64 0, .int .i64 0] 58)).alloc (.cells #[.int .i64 0, .int .i64 0, .int .i64 0, .int .i64 0, .int .i64 0, .int .i64 0] 58)).drew := hHeld.alloc (by simp) _
          have r1 : RowT 58 ((wB.alloc (.cells #[.int .i64 0, .int .i64 0, .int .i64 0, .int .i64 0, .int .i64 0, .int .i64 0] 58)).alloc (.cells #[.int .i64 0, .int .i64 0, .int .i64 0, .int .i64 0, .int .i64 0, .int .i64 0] 58)).drew wB.heap.size #[.int .i64 0, .int .i64 0, .int .i64 0, .int .i64 0, .int .i64 0, .int .i64 0] := (RowT.new _ wB _).on (((Below.refl _ _).alloc (Nat.le_refl _) _).drew)
          have r2 : RowT 58 ((wB.alloc (.cells #[.int .i64 0, .int .i64 0, .int .i64 0, .int .i64 0, .int .i64 0, .int .i64 0] 58)).alloc (.cells #[.int .i64 0, .int .i64 0, .int .i64 0, .int .i64 0, .int .i64 0, .int .i64 0] 58)).drew (wB.heap.size + 1) #[.int .i64 0, .int .i64 0, .int .i64 0, .int .i64 0, .int .i64 0, .int .i64 0] := by
            have := RowT.new 58 (wB.alloc (.cells #[.int .i64 0, .int .i64 0, .int .i64 0, .int .i64 0, .int .i64 0, .int .i64 0] 58)) #[.int .i64 0, .int .i64 0, .int .i64 0, .int .i64 0, .int .i64 0, .int .i64 0]
            rwa [show (wB.alloc (.cells #[.int .i64 0, .int .i64 0, .int .i64 0, .int .i64 0, .int .i64 0, .int .i64 0] 58)).heap.size = wB.heap.size + 1 by simp] at this
          refine hK'.out _ _ hb2 (fun hHeld2 => ?_)
          clear hK' K' hHeld2 hHeld
          generalize ((wB.alloc (.cells #[.int .i64 0, .int .i64 0, .int .i64 0, .int .i64 0, .int .i64 0, .int .i64 0] 58)).alloc (.cells #[.int .i64 0, .int .i64 0, .int .i64 0, .int .i64 0, .int .i64 0, .int .i64 0] 58)).drew = wA at hb2 r1 r2 ⊢
          refine Hl.consL (i := 12) rfl (by kernel_rfl) (fun K' hK' => ?_)
          refine Hl.step_store_row rfl 58 (.tmp 7) (.tmp 30) rfl wB.heap.size (mC3 x).toArray rfl rfl 58 _ r1 winfo14 rfl (mc3_one x) ?_
          have s1 : RowT 58 (wA.setRow wB.heap.size (mC3 x).toArray) wB.heap.size (mC3 x).toArray := setRow_heap _ _ _ _ _ _ r1
          have s2 : RowT 58 (wA.setRow wB.heap.size (mC3 x).toArray) (wB.heap.size + 1) #[.int .i64 0, .int .i64 0, .int .i64 0, .int .i64 0, .int .i64 0, .int .i64 0] := (setRow_other _ _ _ _ (by omega)).trans r2
          have hb3 : Below wB.heap.size wB (wA.setRow wB.heap.size (mC3 x).toArray) := below_setRow hb2 (by omega) _
          refine hK'.out _ _ hb3 (fun hHeld2 => ?_)
          clear hK' K' hHeld2 r1 r2 hb2
          generalize wA.setRow wB.heap.size (mC3 x).toArray = wA2 at s1 s2 hb3 ⊢
          refine Hl.consL (i := 13) rfl (by kernel_rfl) (fun K' hK' => ?_)
          refine Hl.step_store_row rfl 58 (.tmp 8) (.tmp 35) rfl (wB.heap.size + 1) (mC3 y).toArray rfl rfl 58 _ s2 winfo14 rfl (mc3_one y) ?_
          have t1 : RowT 58 (wA2.setRow (wB.heap.size + 1) (mC3 y).toArray) wB.heap.size (mC3 x).toArray := (setRow_other _ _ _ _ (by omega)).trans s1
          have t2 : RowT 58 (wA2.setRow (wB.heap.size + 1) (mC3 y).toArray) (wB.heap.size + 1) (mC3 y).toArray := setRow_heap _ _ _ _ _ _ s2
          have hb4 : Below wB.heap.size wB (wA2.setRow (wB.heap.size + 1) (mC3 y).toArray) := below_setRow hb3 (by omega) _
          refine hK'.out _ _ hb4 (fun hHeld2 => ?_)
          clear hK' K' hHeld2 s1 s2 hb3
          refine wpAnyH_done (by kernel_rfl) ?_ _
          go_wp2_with fail
          go_meet
          case rel => exact ⟨_, _, rfl, rfl, t1, t2, hb4⟩
        · go_simp
          refine hK'.out _ _ (hHeld.alloc (Nat.le_refl _) _) (fun hHeld => ?_)
          clear hK' K'
          refine Hl.consL (i := 10) rfl (by kernel_rfl) (fun K' hK' => ?_)
          go_simp
          have hb2 : Below wB.heap.size wB ((wB.alloc (.cells #[.int .i64 0, .int .i64 0, .int .i64 0, .int .i64 0, .int .i64 0, .int .i64 0] 58)).alloc (.cells #[.int .i64 0, .int .i64 0, .int .i64 0, .int .i64 0, .int .i64 0, .int .i64 0] 58)).drew := hHeld.alloc (by simp) _
          have r1 : RowT 58 ((wB.alloc (.cells #[.int .i64 0, .int .i64 0, .int .i64 0, .int .i64 0, .int .i64 0, .int .i64 0] 58)).alloc (.cells #[.int .i64 0, .int .i64 0, .int .i64 0, .int .i64 0, .int .i64 0, .int .i64 0] 58)).drew wB.heap.size #[.int .i64 0, .int .i64 0, .int .i64 0, .int .i64 0, .int .i64 0, .int .i64 0] := (RowT.new _ wB _).on (((Below.refl _ _).alloc (Nat.le_refl _) _).drew)
          have r2 : RowT 58 ((wB.alloc (.cells #[.int .i64 0, .int .i64 0, .int .i64 0, .int .i64 0, .int .i64 0, .int .i64 0] 58)).alloc (.cells #[.int .i64 0, .int .i64 0, .int .i64 0, .int .i64 0, .int .i64 0, .int .i64 0] 58)).drew (wB.heap.size + 1) #[.int .i64 0, .int .i64 0, .int .i64 0, .int .i64 0, .int .i64 0, .int .i64 0] := by
            have := RowT.new 58 (wB.alloc (.cells #[.int .i64 0, .int .i64 0, .int .i64 0, .int .i64 0, .int .i64 0, .int .i64 0] 58)) #[.int .i64 0, .int .i64 0, .int .i64 0, .int .i64 0, .int .i64 0, .int .i64 0]
            rwa [show (wB.alloc (.cells #[.int .i64 0, .int .i64 0, .int .i64 0, .int .i64 0, .int .i64 0, .int .i64 0] 58)).heap.size = wB.heap.size + 1 by simp] at this
          refine hK'.out _ _ hb2 (fun hHeld2 => ?_)
          clear hK' K' hHeld2 hHeld
          generalize ((wB.alloc (.cells #[.int .i64 0, .int .i64 0, .int .i64 0, .int .i64 0, .int .i64 0, .int .i64 0] 58)).alloc (.cells #[.int .i64 0, .int .i64 0, .int .i64 0, .int .i64 0, .int .i64 0, .int .i64 0] 58)).drew = wA at hb2 r1 r2 ⊢
          refine Hl.consL (i := 12) rfl (by kernel_rfl) (fun K' hK' => ?_)
          refine Hl.step_store_row rfl 58 (.tmp 7) (.tmp 30) rfl (wB.heap.size + 1) (mC3 x).toArray rfl rfl 58 _ r2 winfo14 rfl (mc3_one x) ?_
          have s1 : RowT 58 (wA.setRow (wB.heap.size + 1) (mC3 x).toArray) (wB.heap.size + 1) (mC3 x).toArray := setRow_heap _ _ _ _ _ _ r2
          have s2 : RowT 58 (wA.setRow (wB.heap.size + 1) (mC3 x).toArray) wB.heap.size #[.int .i64 0, .int .i64 0, .int .i64 0, .int .i64 0, .int .i64 0, .int .i64 0] := (setRow_other _ _ _ _ (by omega)).trans r1
          have hb3 : Below wB.heap.size wB (wA.setRow (wB.heap.size + 1) (mC3 x).toArray) := below_setRow hb2 (by omega) _
          refine hK'.out _ _ hb3 (fun hHeld2 => ?_)
          clear hK' K' hHeld2 r1 r2 hb2
          generalize wA.setRow (wB.heap.size + 1) (mC3 x).toArray = wA2 at s1 s2 hb3 ⊢
          refine Hl.consL (i := 13) rfl (by kernel_rfl) (fun K' hK' => ?_)
          refine Hl.step_store_row rfl 58 (.tmp 8) (.tmp 35) rfl wB.heap.size (mC3 y).toArray rfl rfl 58 _ s2 winfo14 rfl (mc3_one y) ?_
          have t1 : RowT 58 (wA2.setRow wB.heap.size (mC3 y).toArray) (wB.heap.size + 1) (mC3 x).toArray := (setRow_other _ _ _ _ (by omega)).trans s1
          have t2 : RowT 58 (wA2.setRow wB.heap.size (mC3 y).toArray) wB.heap.size (mC3 y).toArray := setRow_heap _ _ _ _ _ _ s2
          have hb4 : Below wB.heap.size wB (wA2.setRow wB.heap.size (mC3 y).toArray) := below_setRow hb3 (by omega) _
          refine hK'.out _ _ hb4 (fun hHeld2 => ?_)
          clear hK' K' hHeld2 s1 s2 hb3
          refine wpAnyH_done (by kernel_rfl) ?_ _
          go_wp2_with fail
          go_meet
          case rel => exact ⟨_, _, rfl, rfl, t1, t2, hb4⟩
      case rest =>
        obtain ⟨q7, q8, rfl, rfl, HR7, HR8, HB2⟩ := hcut
        have x1 : wc.cell? ⟨q7, 1, none⟩ = some (.int .i64 x.start) := HR7.out.c 1 _ rfl
        have x2 : wc.cell? ⟨q7, 2, none⟩ = some (.int .i64 x.fin) := HR7.out.c 2 _ rfl
        have x3 : wc.cell? ⟨q7, 3, none⟩ = some (.int .i64 x.cycle) := HR7.out.c 3 _ rfl
        have x4 : wc.cell? ⟨q7, 4, none⟩ = some (.int .i64 x.rep) := HR7.out.c 4 _ rfl
        have z1 : wc.cell? ⟨q8, 1, none⟩ = some (.int .i64 y.start) := HR8.out.c 1 _ rfl
        have z2 : wc.cell? ⟨q8, 2, none⟩ = some (.int .i64 y.fin) := HR8.out.c 2 _ rfl
        have z3 : wc.cell? ⟨q8, 3, none⟩ = some (.int .i64 y.cycle) := HR8.out.c 3 _ rfl
        have z4 : wc.cell? ⟨q8, 4, none⟩ = some (.int .i64 y.rep) := HR8.out.c 4 _ rfl
        have HXc : Hid (Bx w wc w.heap.size m a) := HX.out.on HB2.out
        have y2 := HXc.out.row.mat.2.2.1
        clear HC HR7 HR8 HB2 HX hx hy
        by_cases c1 : x.start < y.fin
        · by_cases c2 : y.start < x.fin
          · have HE : Hid (R = (List.range 8).any (Lq.both m.cycles x y)) := by show R = _; rw [HRe.out, Lq.meetW, Lq.cross, decide_eq_true c1, decide_eq_true c2]; rfl
            have c1' : ¬ (y.fin ≤ x.start) := by omega
            have c2' : ¬ (x.fin ≤ y.start) := by omega
            clear c1 c2
            go_wp2_with fail
            go_loopw [9] (fun vi wr => ∃ k : Nat, k ≤ 8 ∧ vi = .int .i64 (k : Int) ∧ wr = wc ∧ Hid (∀ c, c < k → Lq.both m.cycles x y c = false)) (fun vi _ => 8 - (intOf vi).toNat)
            case atStart => exact ⟨0, Nat.zero_le _, rfl, rfl, fun c hc => absurd hc (Nat.not_lt_zero _)⟩
            case round =>
              obtain ⟨k, hk, rfl, rfl, HF⟩ := hrel
              have HCm : Hid (∀ cy rp, (Lit.int .i64 cy).wf = true → Calls Tryd.prog 26 #[.int .i64 cy, .int .i64 rp, .int .i64 (k : Int)] wr fun e w' => e = .returned (.bool (Mx.comes cy rp (k : Int))) ∧ w' = wr) := fun cy rp h => rcomes_any wr cy rp (k : Int) h (wfi (by omega))
              by_cases hc : (k : Int) < m.cycles
              · by_cases h8 : k < 8
                · have h8i : (k : Int) < 8 := by omega
                  cases hm1 : Mx.comes x.cycle x.rep (k : Int)
                  · have HF2 : Hid (∀ c, c < k + 1 → Lq.both m.cycles x y c = false) := Lq.upto_b HF.out (by unfold Lq.both; rw [hm1]; simp)
                    go_wp2_with fail
                    refine (HCm.out _ _ HWx.out).mono ?_
                    rintro e w9 ⟨rfl, rfl⟩
                    rw [hm1]
                    go_wp2_with fail
                    go_roundw
                    case rel => exact ⟨k + 1, by omega, rfl, (by first | rfl | trivial), HF2⟩
                    case measure => simp only [intOf]; omega
                  · cases hm2 : Mx.comes y.cycle y.rep (k : Int)
                    · have HF2 : Hid (∀ c, c < k + 1 → Lq.both m.cycles x y c = false) := Lq.upto_b HF.out (by unfold Lq.both; rw [hm2]; simp)
                      go_wp2_with fail
                      refine (HCm.out _ _ HWx.out).mono ?_
                      rintro e w9 ⟨rfl, rfl⟩
                      rw [hm1]
                      go_wp2_with fail
                      refine (HCm.out _ _ HWy.out).mono ?_
                      rintro e w9 ⟨rfl, rfl⟩
                      rw [hm2]
                      go_wp2_with fail
                      go_roundw
                      case rel => exact ⟨k + 1, by omega, rfl, (by first | rfl | trivial), HF2⟩
                      case measure => simp only [intOf]; omega
                    · have hR : R = true := by
                        rw [HE.out, List.any_eq_true]
                        exact ⟨k, List.mem_range.2 h8, by unfold Lq.both; rw [decide_eq_true hc, hm1, hm2]; rfl⟩
                      go_wp2_with fail
                      refine (HCm.out _ _ HWx.out).mono ?_
                      rintro e w9 ⟨rfl, rfl⟩
                      rw [hm1]
                      go_wp2_with fail
                      refine (HCm.out _ _ HWy.out).mono ?_
                      rintro e w9 ⟨rfl, rfl⟩
                      rw [hm2]
                      go_wp2
                      go_ret
                      exact ⟨by first | rfl | (rw [hR]; rfl), HXc.out.below⟩
                · have h8i : ¬ ((k : Int) < 8) := by omega
                  have hR : R = false := by
                    rw [HE.out]
                    exact Lq.any_none (fun c hc => HF.out c (by omega))
                  go_wp2
                  go_ret
                  exact ⟨by first | rfl | (rw [hR]; rfl), HXc.out.below⟩
              · have hR : R = false := by
                  rw [HE.out]
                  exact Lq.any_none (fun c hc8 => by
                    by_cases hck : c < k
                    · exact HF.out c hck
                    · unfold Lq.both; rw [decide_eq_false (by omega)]; rfl)
                go_wp2
                go_ret
                exact ⟨by first | rfl | (rw [hR]; rfl), HXc.out.below⟩
          · have hR : R = false := by rw [HRe.out, Lq.meetW, Lq.cross, decide_eq_false c2]; simp
            have c1' : ¬ (y.fin ≤ x.start) := by omega
            have c2' : x.fin ≤ y.start := by omega
            clear c1 c2
            go_wp2
            go_ret
            exact ⟨by first | rfl | (rw [hR]; rfl), HXc.out.below⟩
        · have hR : R = false := by rw [HRe.out, Lq.meetW, Lq.cross, decide_eq_false c1]; simp
          have c1' : y.fin ≤ x.start := by omega
          clear c1
          go_wp2
          go_ret
          exact ⟨by first | rfl | (rw [hR]; rfl), HXc.out.below⟩
end Go.Proofs.YtnbfnipdiffphaaDoor
