/- ConfigApart: unlike matrices of few entries have unlike bytes (what is no matrix is let by); no condition. -/
import Derived.Test.YtcdalfhmmipiaaaDoorP6
import Derived.ProofKit
import Derived.OpenShut
namespace Go.Proofs.YtcdalfhmmipiaaaDoor.configApart
open Go.ChangeShapes Go.WideShapes Go.ChangeAt Go.RowKit
set_option linter.unusedVariables false
variable {Q : World → Prop}
set_option maxRecDepth 100000 in
set_option maxHeartbeats 4000000 in
theorem walkA (hQ : ∀ w w', Q w → Below w.heap.size w w' → Q w') (S : ConfSpec Q) (m : Mx.M) (a : Ma) (n : Mx.M) (b : Ma) {W0 : World} (hm : MIn W0 m a) (hwf : Mx.Wf m) (hn : MIn W0 n b) (hwn : Mx.Wf n) (W : World) (hw0 : W = W0) (hW : Q W) :
    Calls Tryd.prog 7 #[mV m a, mV n b] W fun e w' => e = .returned (.bool true) ∧ Below W.heap.size W w' := by
  subst hw0
  have HQ : Hid (∀ w, Below W.heap.size W w → Q w) := fun w hb => hQ W w hW hb
  have HK : Hid (∀ w, Below W.heap.size W w → Calls Tryd.prog 9 #[] w fun e w' => e = .returned (.bool true) ∧ Below w.heap.size w w') := fun w hb => known13_any hQ S w (HQ.out _ hb)
  have HPa : Hid (∀ w b, Below W.heap.size W w → b.length ≤ 1000 → Calls Tryd.prog 12 #[.string ⟨b.toArray⟩] w fun e w' => Told b e w' ∧ Below w.heap.size w w') := fun w b h hl => S.parse w b (HQ.out _ h) hl
  have HPr : Hid (∀ w, MIn w m a → Below W.heap.size W w → Mx.Small m → Calls Tryd.prog 11 #[mV m a] w fun e w' => e = .returned (.string ⟨(Pq.pr m).toArray⟩) ∧ Below w.heap.size w w') := fun w h hb hs => S.print w m a (HQ.out _ hb) h hs hwf
  have HSz : Hid (∀ w, MIn w m a → Below W.heap.size W w → Mx.Small m → Calls Tryd.prog 14 #[mV m a] w fun e w' => e = .returned (.int .i64 ((Pq.pr m).length : Int)) ∧ Below w.heap.size w w') := fun w h hb hs => S.size w m a (HQ.out _ hb) h hs hwf
  have HPrn : Hid (∀ w, MIn w n b → Below W.heap.size W w → Mx.Small n → Calls Tryd.prog 11 #[mV n b] w fun e w' => e = .returned (.string ⟨(Pq.pr n).toArray⟩) ∧ Below w.heap.size w w') := fun w h hb hs => S.print w n b (HQ.out _ hb) h hs hwn
  have HSzn : Hid (∀ w, MIn w n b → Below W.heap.size W w → Mx.Small n → Calls Tryd.prog 14 #[mV n b] w fun e w' => e = .returned (.int .i64 ((Pq.pr n).length : Int)) ∧ Below w.heap.size w w') := fun w h hb hs => S.size w n b (HQ.out _ hb) h hs hwn
  have HX : Hid (Bx W ((W.alloc (.cells (mCs m a) 27)).alloc (.cells (mCs n b) 27)) W.heap.size m a) := (Bx.mk' hm).al _
  have HY : Hid (Bx W ((W.alloc (.cells (mCs m a) 27)).alloc (.cells (mCs n b) 27)) (W.heap.size + 1) n b) := by
    have := Bx.make (Bx.mk' hm).below (hn.on (Bx.mk' hm).below)
    have e : (W.alloc (.cells (mCs m a) 27)).heap.size = W.heap.size + 1 := by simp
    rw [e] at this
    exact this
  clear hm hwf hQ hW hn hwn
  go_enter Tryd.func7, Tryd.ntmps7
  go_wp2_with fail
  refine (HK.out _ HX.out.below).mono ?_
  rintro e w1 ⟨rfl, hb⟩
  replace HX : Hid (Bx W w1 W.heap.size m a) := HX.out.on hb
  replace HY : Hid (Bx W w1 (W.heap.size + 1) n b) := HY.out.on hb
  clear hb HK
  obtain ⟨x0, x1, x2, x3, x4, x5, x6, x7, x8, x9, x10⟩ := HX.out.row.mat
  obtain ⟨y0, y1, y2, y3, y4, y5, y6, y7, y8, y9, y10⟩ := HY.out.row.mat
  go_wp2_with fail
  refine (few13_any w1 m a).mono ?_
  rintro e w2 ⟨rfl, hb⟩
  replace HX : Hid (Bx W w2 W.heap.size m a) := HX.out.on hb
  replace HY : Hid (Bx W w2 (W.heap.size + 1) n b) := HY.out.on hb
  clear x0 x1 x10 x2 x3 x4 x5 x6 x7 x8 x9 y0 y1 y10 y2 y3 y4 y5 y6 y7 y8 y9
  clear hb
  cases hf1 : Mx.few m
  · go_wp2
    go_ret
    exact ⟨rfl, HX.out.below⟩
  have HS : Hid (Mx.Small m) := Mx.few_small hf1
  obtain ⟨x0, x1, x2, x3, x4, x5, x6, x7, x8, x9, x10⟩ := HX.out.row.mat
  obtain ⟨y0, y1, y2, y3, y4, y5, y6, y7, y8, y9, y10⟩ := HY.out.row.mat
  go_wp2_with fail
  refine (few13_any _ n b).mono ?_
  rintro e w3 ⟨rfl, hb⟩
  replace HX : Hid (Bx W w3 W.heap.size m a) := HX.out.on hb
  replace HY : Hid (Bx W w3 (W.heap.size + 1) n b) := HY.out.on hb
  clear x0 x1 x10 x2 x3 x4 x5 x6 x7 x8 x9 y0 y1 y10 y2 y3 y4 y5 y6 y7 y8 y9
  clear hb
  cases hf2 : Mx.few n
  · go_wp2
    go_ret
    exact ⟨rfl, HX.out.below⟩
  have HT : Hid (Mx.Small n) := Mx.few_small hf2
  obtain ⟨x0, x1, x2, x3, x4, x5, x6, x7, x8, x9, x10⟩ := HX.out.row.mat
  obtain ⟨y0, y1, y2, y3, y4, y5, y6, y7, y8, y9, y10⟩ := HY.out.row.mat
  go_wp2_with fail
  refine (ris_any _ m a HX.out.mem HS.out).mono ?_
  rintro e w4 ⟨rfl, hb⟩
  replace HX : Hid (Bx W w4 W.heap.size m a) := HX.out.on hb
  replace HY : Hid (Bx W w4 (W.heap.size + 1) n b) := HY.out.on hb
  clear x0 x1 x10 x2 x3 x4 x5 x6 x7 x8 x9 y0 y1 y10 y2 y3 y4 y5 y6 y7 y8 y9
  clear hb
  cases hi1 : Mx.is m
  · go_wp2
    go_ret
    exact ⟨rfl, HX.out.below⟩
  obtain ⟨x0, x1, x2, x3, x4, x5, x6, x7, x8, x9, x10⟩ := HX.out.row.mat
  obtain ⟨y0, y1, y2, y3, y4, y5, y6, y7, y8, y9, y10⟩ := HY.out.row.mat
  go_wp2_with fail
  refine (ris_any _ n b HY.out.mem HT.out).mono ?_
  rintro e w5 ⟨rfl, hb⟩
  replace HX : Hid (Bx W w5 W.heap.size m a) := HX.out.on hb
  replace HY : Hid (Bx W w5 (W.heap.size + 1) n b) := HY.out.on hb
  clear x0 x1 x10 x2 x3 x4 x5 x6 x7 x8 x9 y0 y1 y10 y2 y3 y4 y5 y6 y7 y8 y9
  clear hb
  cases hi2 : Mx.is n
  · go_wp2
    go_ret
    exact ⟨rfl, HX.out.below⟩
  have HE : Hid ((Pq.pr m == Pq.pr n) = decide (m = n)) := by
    show _ = _
    by_cases h : m = n
    · rw [h]; simp
    · rw [decide_eq_false h]; exact beq_eq_false_iff_ne.2 (fun e => h (Pq.pr_inj hi1 hi2 e))
  clear hf1 hf2 hi1 hi2
  have e1 := HE.out
  go_wp2_with fail
  refine wp_region_held_drew (S := fun w' => Bx W w' W.heap.size m a ∧ Bx W w' (W.heap.size + 1) n b) (by kernel_rfl) ⟨HX.out.on (Below.refl _ _).drew, HY.out.on (Below.refl _ _).drew⟩ (fun hHeld => ?_)
  clear HX HY
  refine Hl.takeL (i := 0) (d := 25) (v := ?_) rfl (by kernel_rfl) (by kernel_rfl) (by kernel_rfl) (fun _ _ _ h => h) (by rfl) ?_ (by first | assumption | trivial) ?_
  rotate_left
  · intro w hSw; obtain ⟨y0, y1, y2, y3, y4, y5, y6, y7, y8, y9, y10⟩ := hSw.1.row.mat; go_simp; (try with_reducible rfl)
  simp only [Act.put, List.setIfInBounds_toArray, List.set_cons_zero, List.set_cons_succ]
  refine Hl.takeL (i := 2) (d := 27) (v := ?_) rfl (by kernel_rfl) (by kernel_rfl) (by kernel_rfl) (fun _ _ _ h => h) (by rfl) ?_ (by first | assumption | trivial) ?_
  rotate_left
  · intro w hSw; obtain ⟨y0, y1, y2, y3, y4, y5, y6, y7, y8, y9, y10⟩ := hSw.2.row.mat; go_simp; (try with_reducible rfl)
  simp only [Act.put, List.setIfInBounds_toArray, List.set_cons_zero, List.set_cons_succ]
  refine Hl.takeL (i := 5) (d := 30) (v := ?_) rfl (by kernel_rfl) (by kernel_rfl) (by kernel_rfl) (fun _ _ _ h => h) (by rfl) ?_ (by first | assumption | trivial) ?_
  rotate_left
  · intro w hSw; obtain ⟨y0, y1, y2, y3, y4, y5, y6, y7, y8, y9, y10⟩ := hSw.1.row.mat; go_simp; (try with_reducible rfl)
  simp only [Act.put, List.setIfInBounds_toArray, List.set_cons_zero, List.set_cons_succ]
  refine Hl.takeL (i := 6) (d := 31) (v := ?_) rfl (by kernel_rfl) (by kernel_rfl) (by kernel_rfl) (fun _ _ _ h => h) (by rfl) ?_ (by first | assumption | trivial) ?_
  rotate_left
  · intro w hSw; obtain ⟨y0, y1, y2, y3, y4, y5, y6, y7, y8, y9, y10⟩ := hSw.2.row.mat; go_simp; (try with_reducible rfl)
  simp only [Act.put, List.setIfInBounds_toArray, List.set_cons_zero, List.set_cons_succ]
  refine Hl.consL (i := 1) rfl (by kernel_rfl) (fun K' hK' => ?_)
  go_simp
  refine (HPr.out _ hHeld.1.mem hHeld.1.below HS.out).mono ?_
  rintro e wz ⟨rfl, hb⟩
  have hHz : Bx W wz W.heap.size m a ∧ Bx W wz (W.heap.size + 1) n b := ⟨hHeld.1.on hb, hHeld.2.on hb⟩
  clear hHeld hb
  try go_wp2_with fail
  refine hK'.out _ _ hHz (fun hHeld => ?_)
  clear hK' K' hHz
  refine Hl.consL (i := 3) rfl (by kernel_rfl) (fun K' hK' => ?_)
  go_simp
  refine (HPrn.out _ hHeld.2.mem hHeld.2.below HT.out).mono ?_
  rintro e wz ⟨rfl, hb⟩
  have hHz : Bx W wz W.heap.size m a ∧ Bx W wz (W.heap.size + 1) n b := ⟨hHeld.1.on hb, hHeld.2.on hb⟩
  clear hHeld hb
  try go_wp2_with fail
  refine hK'.out _ _ hHz (fun hHeld => ?_)
  clear hK' K' hHz
  refine Hl.takeL (i := 4) (d := 29) (v := ?_) rfl (by kernel_rfl) (by kernel_rfl) (by kernel_rfl) (fun _ _ _ h => h) (by rfl) ?_ (by first | assumption | trivial) ?_
  rotate_left
  · intro w hSw; skip; go_simp; (try with_reducible rfl)
  simp only [Act.put, List.setIfInBounds_toArray, List.set_cons_zero, List.set_cons_succ]
  refine Hl.consL (i := 7) rfl (by kernel_rfl) (fun K' hK' => ?_)
  go_simp
  refine (rsame_any _ m n a b hHeld.1.mem hHeld.2.mem HS.out HT.out).mono ?_
  rintro e wz ⟨rfl, hb⟩
  have hHz : Bx W wz W.heap.size m a ∧ Bx W wz (W.heap.size + 1) n b := ⟨hHeld.1.on hb, hHeld.2.on hb⟩
  clear hHeld hb
  try go_wp2_with fail
  refine hK'.out _ _ hHz (fun hHeld => ?_)
  clear hK' K' hHz
  refine Hl.takeL (i := 8) (d := 33) (v := ?_) rfl (by kernel_rfl) (by kernel_rfl) (by kernel_rfl) (fun _ _ _ h => h) (by rfl) ?_ (by first | assumption | trivial) ?_
  rotate_left
  · intro w hSw; skip; go_simp; (try with_reducible rfl)
  simp only [Act.put, List.setIfInBounds_toArray, List.set_cons_zero, List.set_cons_succ]
  refine Hl.takeL (i := 9) (d := 4) (v := ?_) rfl (by kernel_rfl) (by kernel_rfl) (by kernel_rfl) (fun _ _ _ h => h) (by rfl) ?_ (by first | assumption | trivial) ?_
  rotate_left
  · intro w hSw; skip; go_simp; (try with_reducible rfl)
  simp only [Act.put, List.setIfInBounds_toArray, List.set_cons_zero, List.set_cons_succ]
  refine wpAnyH_done (by kernel_rfl) ?_ _
  have HB := hHeld.1.below
  go_wp2
  go_ret
  exact ⟨rfl, HB⟩
end Go.Proofs.YtcdalfhmmipiaaaDoor.configApart
