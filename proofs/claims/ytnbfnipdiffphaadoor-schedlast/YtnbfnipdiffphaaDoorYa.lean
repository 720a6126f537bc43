/- Layer 15: triggers as values; the document's Beat, Watch, over their text. -/
import Derived.Test.YtnbfnipdiffphaaDoorUp
import Derived.Test.YtnbfnipdiffphaaDoorYt
import Derived.Test.YtnbfnipdiffphaaDoorSg
import Derived.WalkArith
namespace Go.Proofs.YtnbfnipdiffphaaDoor
open Go.RowKit Go.WideShapes
set_option linter.unusedVariables false
def tC (t : Yq.Tr) : List Value := [.int .i64 t.kind, .int .i64 t.at_, .int .i64 t.cycle, .int .i64 t.rep, .int .i64 t.msg, .int .i64 t.til]
theorem elT : Sg.El Tryd.prog 33 36 6 (.agg #[.int .i64 0, .int .i64 0, .int .i64 0, .int .i64 0, .int .i64 0, .int .i64 0]) 48 := ⟨Tryd.underlying33, by kernel_rfl, rfl, by decide⟩
theorem tC_one (t : Yq.Tr) : ∀ u ∈ tC t, u.oneCell' = true := fun u hu => by
  simp only [tC, List.mem_cons, List.not_mem_nil, or_false] at hu
  rcases hu with rfl | rfl | rfl | rfl | rfl | rfl <;> rfl
theorem tC_flat (l : List Yq.Tr) : ∀ u ∈ l.flatMap tC, u.oneCell' = true := fun u hu => by
  obtain ⟨x, _, h⟩ := List.mem_flatMap.1 hu
  exact tC_one x u h
theorem tC_len (l : List Yq.Tr) : (l.flatMap tC).length = l.length * 6 := by
  induction l with
  | nil => simp
  | cons x l ih => rw [List.flatMap_cons, List.length_append, ih, List.length_cons, Nat.succ_mul, Nat.add_comm]; rfl
structure Yq.Wf (t : Yq.Tr) : Prop where
  kind : (Lit.int .i64 t.kind).wf = true
  at_ : (Lit.int .i64 t.at_).wf = true
  cycle : (Lit.int .i64 t.cycle).wf = true
  rep : (Lit.int .i64 t.rep).wf = true
  msg : (Lit.int .i64 t.msg).wf = true
  til : (Lit.int .i64 t.til).wf = true
set_option maxRecDepth 100000 in
set_option maxHeartbeats 4000000 in
theorem rbeat_any (w : World) (m : Mx.M) (a : Ma) (r : Int) (hm : MIn w m a) (hS : Mx.Small m) (hwf : Mx.Wf m) : Ob.Looks Tryd.prog 25 #[mV m a, .int .i64 r] w (.int .i64 (Yq.beat m r)) := by
  have HX : Hid (Bx w (w.alloc (.cells (mCs m a) 27)) w.heap.size m a) := Bx.mk' hm
  obtain ⟨y0, y1, y2, y3, y4, y5, y6, y7, y8, y9, y10⟩ := HX.out.row.mat
  have HS : Hid (Mx.Small m) := hS
  have HW : Hid (Mx.Wf m) := hwf
  obtain ⟨V, hV⟩ : ∃ V, Yq.beat m r = V := ⟨_, rfl⟩
  have HV : Hid (Yq.beat m r = V) := hV
  unfold Ob.Looks
  rw [hV]
  clear hV hwf hS
  go_enter Tryd.func25, Tryd.ntmps25
  go_wp2_with fail
  refine (ris_any _ m a HX.out.mem HS.out).mono ?_
  rintro e w1 ⟨rfl, hb⟩
  replace HX : Hid (Bx w w1 w.heap.size m a) := HX.out.on hb
  clear y0 y1 y2 y3 y4 y5 y6 y7 y8 y9 y10 hb hm
  cases hi : Mx.is m
  · obtain rfl : V = 0 := by rw [← HV.out]; unfold Yq.beat; rw [hi, if_neg (by simp)]
    go_wp2
    go_ret
    exact ⟨rfl, HX.out.below⟩
  · have hsp := Yq.step_pos hi
    have hcy := Lq.cyc_of hi
    have hl4 := Yq.lens4 hi
    have HR : Hid (∀ w', Below w1.heap.size w1 w' → RowT 27 w' w.heap.size (mCs m a)) := fun w' hb => (HX.out.on hb).row
    have HC : Hid (∀ w', Below w1.heap.size w1 w' → Calls Tryd.prog 22 #[mV m a] w' fun e w'' => e = .returned (.int .i64 (Lq.step m)) ∧ Below w'.heap.size w' w'') := fun w' hb => rstep_any w' m a (HX.out.on hb).mem HS.out HW.out
    have HB : Hid (Below w.heap.size w w1) := HX.out.below
    obtain ⟨_, _, ln1, ln2, _⟩ := hcy
    by_cases r1 : r < 0
    · obtain rfl : V = m.length := by rw [← HV.out]; unfold Yq.beat; rw [if_pos hi, if_pos (Or.inl r1)]
      have x3 := HX.out.row.mat.2.2.2.1
      go_wp2
      go_ret
      exact ⟨rfl, HX.out.below⟩
    · by_cases r2 : 99 < r
      · obtain rfl : V = m.length := by rw [← HV.out]; unfold Yq.beat; rw [if_pos hi, if_pos (Or.inr r2)]
        have x3 := HX.out.row.mat.2.2.2.1
        go_wp2
        go_ret
        exact ⟨rfl, HX.out.below⟩
      · obtain ⟨P, hP⟩ : ∃ P, (r + 1) * Lq.step m = P := ⟨_, rfl⟩
        obtain rfl : V = m.length + P := by rw [← HV.out, Yq.beat_eq hi (by omega) (by omega), hP]
        have p0 : 0 ≤ P := by rw [← hP]; exact Int.mul_nonneg (by omega) (by omega)
        have p1 : P ≤ 500000 := by
          rw [← hP]
          have : (r + 1) * Lq.step m ≤ 100 * 5000 := Int.mul_le_mul (by omega) (by omega) (by omega) (by omega)
          omega
        generalize Lq.step m = ST at *
        obtain ⟨s1, s2⟩ := hsp
        clear HX hi
        go_wp2_with fail
        refine Lw.wp_region_quiet_below (by kernel_rfl) (by kernel_rfl) ?_
        repeat (first
          | go_big_quiet_skip
          | (go_big_quiet_want; go_big_quiet_op; go_big_quiet_on)
          | (go_big_quiet_want; go_big_quiet_op; apply Exists.intro; refine ⟨fun _ hb' => ?_, ?_⟩; (first
            | exact Lw.val_rfl _
            | (go_at_call 22; exact Lw.calls_below hb' (HC.out _ hb'))
            | (simp [go_sem, (HR.out _ hb').mat.2.2.2.1]; rfl)
            | (simp [go_sem, (HR.out _ hb').mat.1, (HR.out _ hb').mat.2.1, (HR.out _ hb').mat.2.2.1, (HR.out _ hb').mat.2.2.2.1, (HR.out _ hb').mat.2.2.2.2.1, (HR.out _ hb').mat.2.2.2.2.2.1, (HR.out _ hb').mat.2.2.2.2.2.2.1, (HR.out _ hb').mat.2.2.2.2.2.2.2.1, (HR.out _ hb').mat.2.2.2.2.2.2.2.2.1, (HR.out _ hb').mat.2.2.2.2.2.2.2.2.2.1, (HR.out _ hb').mat.2.2.2.2.2.2.2.2.2.2]; rfl)); go_big_quiet_on))
        refine wpQuiet_nil ?_
        intro wz hbz
        have HBz : Hid (Below w.heap.size w wz) := HB.out.trans (hbz.mono HB.out.size)
        clear hbz
        go_wp2
        go_ret
        exact ⟨by first | rfl | simp [hP], HBz.out⟩
set_option maxRecDepth 100000 in
set_option maxHeartbeats 4000000 in
theorem rwatch_any (w : World) (m : Mx.M) (a : Ma) (hm : MIn w m a) (hS : Mx.Small m) (hwf : Mx.Wf m) : Ob.Looks Tryd.prog 19 #[mV m a] w (.int .i64 (Yq.watch m)) := by
  have HX : Hid (Bx w (w.alloc (.cells (mCs m a) 27)) w.heap.size m a) := Bx.mk' hm
  obtain ⟨y0, y1, y2, y3, y4, y5, y6, y7, y8, y9, y10⟩ := HX.out.row.mat
  have HS : Hid (Mx.Small m) := hS
  have HW : Hid (Mx.Wf m) := hwf
  obtain ⟨V, hV⟩ : ∃ V, Yq.watch m = V := ⟨_, rfl⟩
  have HV : Hid (Yq.watch m = V) := hV
  unfold Ob.Looks
  rw [hV]
  clear hV hwf hS
  go_enter Tryd.func19, Tryd.ntmps19
  go_wp2_with fail
  refine (ris_any _ m a HX.out.mem HS.out).mono ?_
  rintro e w1 ⟨rfl, hb⟩
  replace HX : Hid (Bx w w1 w.heap.size m a) := HX.out.on hb
  clear y0 y1 y2 y3 y4 y5 y6 y7 y8 y9 y10 hb hm
  cases hi : Mx.is m
  · obtain rfl : V = 0 := by rw [← HV.out]; unfold Yq.watch; rw [hi, if_neg (by simp)]
    go_wp2
    go_ret
    exact ⟨rfl, HX.out.below⟩
  · have hsp := Yq.step_pos hi
    have hcy := Lq.cyc_of hi
    have hl4 := Yq.lens4 hi
    have HR : Hid (∀ w', Below w1.heap.size w1 w' → RowT 27 w' w.heap.size (mCs m a)) := fun w' hb => (HX.out.on hb).row
    have HC : Hid (∀ w', Below w1.heap.size w1 w' → Calls Tryd.prog 22 #[mV m a] w' fun e w'' => e = .returned (.int .i64 (Lq.step m)) ∧ Below w'.heap.size w' w'') := fun w' hb => rstep_any w' m a (HX.out.on hb).mem HS.out HW.out
    have HB : Hid (Below w.heap.size w w1) := HX.out.below
    obtain ⟨_, _, ln1, ln2, _⟩ := hcy
    obtain ⟨P, hP⟩ : ∃ P, ((m.masters.length : Int) + 2) * Lq.step m = P := ⟨_, rfl⟩
    obtain rfl : V = m.length + P := by rw [← HV.out, Yq.watch_eq hi, hP]
    have p0 : 0 ≤ P := by rw [← hP]; exact Int.mul_nonneg (by omega) (by omega)
    have p1 : P ≤ 500000 := by
      rw [← hP]
      have : ((m.masters.length : Int) + 2) * Lq.step m ≤ 100 * 5000 := Int.mul_le_mul (by omega) (by omega) (by omega) (by omega)
      omega
    generalize Lq.step m = ST at *
    obtain ⟨s1, s2⟩ := hsp
    clear HX hi
    go_wp2_with fail
    refine Lw.wp_region_quiet_below (by kernel_rfl) (by kernel_rfl) ?_
    repeat (first
      | go_big_quiet_skip
      | (go_big_quiet_want; go_big_quiet_op; go_big_quiet_on)
      | (go_big_quiet_want; go_big_quiet_op; apply Exists.intro; refine ⟨fun _ hb' => ?_, ?_⟩; (first
        | exact Lw.val_rfl _
        | (go_at_call 22; exact Lw.calls_below hb' (HC.out _ hb'))
        | (simp [go_sem, (HR.out _ hb').mat.2.2.2.1]; rfl)
        | (simp [go_sem, (HR.out _ hb').mat.2.2.2.2.2.2.2.2.1]; rfl)
        | (simp [go_sem, (HR.out _ hb').mat.1, (HR.out _ hb').mat.2.1, (HR.out _ hb').mat.2.2.1, (HR.out _ hb').mat.2.2.2.1, (HR.out _ hb').mat.2.2.2.2.1, (HR.out _ hb').mat.2.2.2.2.2.1, (HR.out _ hb').mat.2.2.2.2.2.2.1, (HR.out _ hb').mat.2.2.2.2.2.2.2.1, (HR.out _ hb').mat.2.2.2.2.2.2.2.2.1, (HR.out _ hb').mat.2.2.2.2.2.2.2.2.2.1, (HR.out _ hb').mat.2.2.2.2.2.2.2.2.2.2]; rfl)); go_big_quiet_on))
    refine wpQuiet_nil ?_
    intro wz hbz
    have HBz : Hid (Below w.heap.size w wz) := HB.out.trans (hbz.mono HB.out.size)
    clear hbz
    go_wp2
    go_ret
    exact ⟨by first | rfl | simp [hP], HBz.out⟩
end Go.Proofs.YtnbfnipdiffphaaDoor
