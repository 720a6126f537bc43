/- PlanTells: of every matrix of few entries and node what it does when; when it beats, when nothing came (others are let by); no condition. -/
import Derived.Test.YtlfhneiddfgoaaaDoorYg
import Derived.Test.YtlfhneiddfgoaaaDoorYh
import Derived.ProofKit
import Derived.OpenShut
namespace Go.Proofs.YtlfhneiddfgoaaaDoor.planTells
open Go.ChangeShapes Go.WideShapes Go.ChangeAt Go.RowKit
set_option linter.unusedVariables false
variable {Q : World → Prop}
set_option maxRecDepth 100000 in
set_option maxHeartbeats 8000000 in
theorem walkA (hQ : ∀ w w', Q w → Below w.heap.size w w' → Q w') (S : PlanSpec Q) (m : Mx.M) (a : Ma) (who rank : Int) {W0 : World} (hm : MIn W0 m a) (hwf : Mx.Wf m) (h1 : (Lit.int .i64 who).wf = true) (h2 : (Lit.int .i64 rank).wf = true) (W : World) (hw0 : W = W0) (hW : Q W) :
    Calls Tryd.prog 3 #[mV m a, .int .i64 who, .int .i64 rank] W fun e w' => e = .returned (.bool true) ∧ Below W.heap.size W w' := by
  subst hw0
  have HQ : Hid (∀ w, Below W.heap.size W w → Q w) := fun w hb => hQ W w hW hb
  have HK : Hid (∀ w, Below W.heap.size W w → Calls Tryd.prog 9 #[] w fun e w' => e = .returned (.bool true) ∧ Below w.heap.size w w') := fun w hb => known15_any hQ S w (HQ.out _ hb)
  have HPl : Hid (∀ w who, Bx W w W.heap.size m a → Mx.Small m → (Lit.int .i64 who).wf = true → Calls Tryd.prog 12 #[mV m a, .int .i64 who] w fun e w' => ∃ s c n, n = (Yq.plan m who).length ∧ e = .returned (.slice s n c) ∧ LI w' s c n ((Yq.plan m who).flatMap tC) ∧ Below w.heap.size w w') := fun w who h hs hw => S.plan w m a who (HQ.out _ h.below) h.mem hs hwf hw
  have HRp : Hid (∀ w who, Bx W w W.heap.size m a → Mx.Small m → Calls Tryd.prog 13 #[mV m a, .int .i64 who] w fun e w' => ∃ s c n, n = (Yq.plan m who).length ∧ e = .returned (.slice s n c) ∧ LI w' s c n ((Yq.plan m who).flatMap tC) ∧ Below w.heap.size w w') := fun w who h hs => rplan_any w m a who h.mem hs hwf
  have HBt : Hid (∀ w r, Bx W w W.heap.size m a → Mx.Small m → (Lit.int .i64 r).wf = true → Calls Tryd.prog 14 #[mV m a, .int .i64 r] w fun e w' => e = .returned (.int .i64 (Yq.beat m r)) ∧ Below w.heap.size w w') := fun w r h hs hr => S.beat w m a r (HQ.out _ h.below) h.mem hs hwf hr
  have HRb : Hid (∀ w r, Bx W w W.heap.size m a → Mx.Small m → Calls Tryd.prog 15 #[mV m a, .int .i64 r] w fun e w' => e = .returned (.int .i64 (Yq.beat m r)) ∧ Below w.heap.size w w') := fun w r h hs => rbeat_any w m a r h.mem hs hwf
  have HWt : Hid (∀ w, Bx W w W.heap.size m a → Mx.Small m → Calls Tryd.prog 16 #[mV m a] w fun e w' => e = .returned (.int .i64 (Yq.watch m)) ∧ Below w.heap.size w w') := fun w h hs => S.watch w m a (HQ.out _ h.below) h.mem hs hwf
  have HRw : Hid (∀ w, Bx W w W.heap.size m a → Mx.Small m → Calls Tryd.prog 17 #[mV m a] w fun e w' => e = .returned (.int .i64 (Yq.watch m)) ∧ Below w.heap.size w w') := fun w h hs => rwatch_any w m a h.mem hs hwf
  have HSa : Hid (∀ (w : World) (l : List Yq.Tr) (s t : Option Addr) (c d n k : Nat), n = l.length → k = l.length → LI w s c n (l.flatMap tC) → LI w t d k (l.flatMap tC) → l.length ≤ 1000 → Calls Tryd.prog 11 #[.slice s n c, .slice t k d] w fun e w' => e = .returned (.bool true) ∧ Below w.heap.size w w') := fun w l s t c d n k h1 h2 hl hr hn => by subst h1 h2; have := same15_any w l l s t c d hl hr hn hn; rwa [decide_eq_true rfl] at this
  have HW1 : Hid ((Lit.int .i64 who).wf = true) := h1
  have HW2 : Hid ((Lit.int .i64 rank).wf = true) := h2
  have HX : Hid (Bx W (W.alloc (.cells (mCs m a) 27)) W.heap.size m a) := Bx.mk' hm
  clear hm hQ hW
  go_enter Tryd.func3, Tryd.ntmps3
  clear h1 h2
  go_wp2_with fail
  refine (HK.out _ HX.out.below).mono ?_
  rintro e w1 ⟨rfl, hb⟩
  replace HX : Hid (Bx W w1 W.heap.size m a) := HX.out.on hb
  clear hb HK
  obtain ⟨y0, y1, y2, y3, y4, y5, y6, y7, y8, y9, y10⟩ := HX.out.row.mat
  go_wp2_with fail
  refine (few15_any w1 m a).mono ?_
  rintro e w2 ⟨rfl, hb⟩
  replace HX : Hid (Bx W w2 W.heap.size m a) := HX.out.on hb
  clear y0 y1 y10 y2 y3 y4 y5 y6 y7 y8 y9
  clear hb
  cases hfw : Mx.few m
  · go_wp2
    go_ret
    exact ⟨rfl, HX.out.below⟩
  have HS : Hid (Mx.Small m) := Mx.few_small hfw
  clear hfw
  have HLp : Hid ((Yq.plan m who).length ≤ 1000) := Yq.plan_len m who HS.out
  clear hwf
  go_wp2_with fail
  have hbd : Below w2.heap.size w2 w2.drew := (Below.refl _ _).drew
  replace HX : Hid (Bx W w2.drew W.heap.size m a) := HX.out.on hbd
  clear hbd
  refine wp_region_held_drew (S := fun w' => RowT 27 w' W.heap.size (mCs m a)) (by kernel_rfl) HX.out.row (fun hHeld => ?_)
  refine Hl.takeL (i := 0) (d := 12) (v := ?_) rfl (by kernel_rfl) (by kernel_rfl) (by kernel_rfl) (fun _ _ _ h => h) (by rfl) ?_ (by first | assumption | trivial) ?_
  rotate_left
  · intro w hSw; obtain ⟨y0, y1, y2, y3, y4, y5, y6, y7, y8, y9, y10⟩ := hSw.mat; go_simp; (try with_reducible rfl)
  simp only [Act.put, List.setIfInBounds_toArray, List.set_cons_zero, List.set_cons_succ]
  refine Hl.takeL (i := 1) (d := 13) (v := ?_) rfl (by kernel_rfl) (by kernel_rfl) (by kernel_rfl) (fun _ _ _ h => h) (by rfl) ?_ (by first | assumption | trivial) ?_
  rotate_left
  · intro w hSw; obtain ⟨y0, y1, y2, y3, y4, y5, y6, y7, y8, y9, y10⟩ := hSw.mat; go_simp; (try with_reducible rfl)
  simp only [Act.put, List.setIfInBounds_toArray, List.set_cons_zero, List.set_cons_succ]
  refine Hl.takeL (i := 3) (d := 15) (v := ?_) rfl (by kernel_rfl) (by kernel_rfl) (by kernel_rfl) (fun _ _ _ h => h) (by rfl) ?_ (by first | assumption | trivial) ?_
  rotate_left
  · intro w hSw; obtain ⟨y0, y1, y2, y3, y4, y5, y6, y7, y8, y9, y10⟩ := hSw.mat; go_simp; (try with_reducible rfl)
  simp only [Act.put, List.setIfInBounds_toArray, List.set_cons_zero, List.set_cons_succ]
  refine Hl.takeL (i := 4) (d := 16) (v := ?_) rfl (by kernel_rfl) (by kernel_rfl) (by kernel_rfl) (fun _ _ _ h => h) (by rfl) ?_ (by first | assumption | trivial) ?_
  rotate_left
  · intro w hSw; obtain ⟨y0, y1, y2, y3, y4, y5, y6, y7, y8, y9, y10⟩ := hSw.mat; go_simp; (try with_reducible rfl)
  simp only [Act.put, List.setIfInBounds_toArray, List.set_cons_zero, List.set_cons_succ]
  refine Hl.consL (i := 2) rfl (by kernel_rfl) (fun K' hK' => ?_)
  go_simp
  refine (HPl.out _ who HX.out HS.out HW1.out).mono ?_
  rintro e w3 ⟨s1, c1, n1, hn, rfl, hl, hb⟩
  replace HX : Hid (Bx W w3 W.heap.size m a) := HX.out.on hb
  have HN1 : Hid (n1 = (Yq.plan m who).length) := hn
  have HL1 : Hid (LI w3 s1 c1 n1 ((Yq.plan m who).flatMap tC)) := hl
  clear hn hl
  clear hb hHeld
  try go_wp2_with fail
  refine hK'.out _ _ HX.out.row (fun hHeld => ?_)
  clear hK' K'
  refine Hl.consL (i := 5) rfl (by kernel_rfl) (fun K' hK' => ?_)
  go_simp
  refine (HRp.out _ who HX.out HS.out).mono ?_
  rintro e w4 ⟨s2, c2, n2, hn, rfl, hl, hb⟩
  replace HX : Hid (Bx W w4 W.heap.size m a) := HX.out.on hb
  replace HL1 : Hid (LI w4 s1 c1 n1 ((Yq.plan m who).flatMap tC)) := HL1.out.on hb
  have HN2 : Hid (n2 = (Yq.plan m who).length) := hn
  have HL2 : Hid (LI w4 s2 c2 n2 ((Yq.plan m who).flatMap tC)) := hl
  clear hn hl
  clear hb hHeld
  try go_wp2_with fail
  refine hK'.out _ _ HX.out.row (fun hHeld => ?_)
  clear hK' K'
  refine Hl.consL (i := 6) rfl (by kernel_rfl) (fun K' hK' => ?_)
  go_simp
  refine (HSa.out _ (Yq.plan m who) _ _ _ _ _ _ HN1.out HN2.out HL1.out HL2.out HLp.out).mono ?_
  rintro e w5 ⟨rfl, hb⟩
  replace HX : Hid (Bx W w5 W.heap.size m a) := HX.out.on hb
  replace HL1 : Hid (LI w5 s1 c1 n1 ((Yq.plan m who).flatMap tC)) := HL1.out.on hb
  replace HL2 : Hid (LI w5 s2 c2 n2 ((Yq.plan m who).flatMap tC)) := HL2.out.on hb
  clear hb hHeld
  try go_wp2_with fail
  refine hK'.out _ _ HX.out.row (fun hHeld => ?_)
  clear hK' K'
  refine Hl.takeL (i := 7) (d := 19) (v := ?_) rfl (by kernel_rfl) (by kernel_rfl) (by kernel_rfl) (fun _ _ _ h => h) (by rfl) ?_ (by first | assumption | trivial) ?_
  rotate_left
  · intro w hSw; obtain ⟨y0, y1, y2, y3, y4, y5, y6, y7, y8, y9, y10⟩ := hSw.mat; go_simp; (try with_reducible rfl)
  simp only [Act.put, List.setIfInBounds_toArray, List.set_cons_zero, List.set_cons_succ]
  refine Hl.takeL (i := 8) (d := 20) (v := ?_) rfl (by kernel_rfl) (by kernel_rfl) (by kernel_rfl) (fun _ _ _ h => h) (by rfl) ?_ (by first | assumption | trivial) ?_
  rotate_left
  · intro w hSw; obtain ⟨y0, y1, y2, y3, y4, y5, y6, y7, y8, y9, y10⟩ := hSw.mat; go_simp; (try with_reducible rfl)
  simp only [Act.put, List.setIfInBounds_toArray, List.set_cons_zero, List.set_cons_succ]
  refine Hl.takeL (i := 9) (d := 21) (v := ?_) rfl (by kernel_rfl) (by kernel_rfl) (by kernel_rfl) (fun _ _ _ h => h) (by rfl) ?_ (by first | assumption | trivial) ?_
  rotate_left
  · intro w hSw; obtain ⟨y0, y1, y2, y3, y4, y5, y6, y7, y8, y9, y10⟩ := hSw.mat; go_simp; (try with_reducible rfl)
  simp only [Act.put, List.setIfInBounds_toArray, List.set_cons_zero, List.set_cons_succ]
  refine Hl.takeL (i := 11) (d := 23) (v := ?_) rfl (by kernel_rfl) (by kernel_rfl) (by kernel_rfl) (fun _ _ _ h => h) (by rfl) ?_ (by first | assumption | trivial) ?_
  rotate_left
  · intro w hSw; obtain ⟨y0, y1, y2, y3, y4, y5, y6, y7, y8, y9, y10⟩ := hSw.mat; go_simp; (try with_reducible rfl)
  simp only [Act.put, List.setIfInBounds_toArray, List.set_cons_zero, List.set_cons_succ]
  refine Hl.takeL (i := 12) (d := 24) (v := ?_) rfl (by kernel_rfl) (by kernel_rfl) (by kernel_rfl) (fun _ _ _ h => h) (by rfl) ?_ (by first | assumption | trivial) ?_
  rotate_left
  · intro w hSw; obtain ⟨y0, y1, y2, y3, y4, y5, y6, y7, y8, y9, y10⟩ := hSw.mat; go_simp; (try with_reducible rfl)
  simp only [Act.put, List.setIfInBounds_toArray, List.set_cons_zero, List.set_cons_succ]
  refine Hl.consL (i := 10) rfl (by kernel_rfl) (fun K' hK' => ?_)
  go_simp
  refine (HBt.out _ rank HX.out HS.out HW2.out).mono ?_
  rintro e w6 ⟨rfl, hb⟩
  replace HX : Hid (Bx W w6 W.heap.size m a) := HX.out.on hb
  clear hb hHeld
  try go_wp2_with fail
  refine hK'.out _ _ HX.out.row (fun hHeld => ?_)
  clear hK' K'
  refine Hl.consL (i := 13) rfl (by kernel_rfl) (fun K' hK' => ?_)
  go_simp
  refine (HRb.out _ rank HX.out HS.out).mono ?_
  rintro e w7 ⟨rfl, hb⟩
  replace HX : Hid (Bx W w7 W.heap.size m a) := HX.out.on hb
  clear hb hHeld
  try go_wp2_with fail
  refine hK'.out _ _ HX.out.row (fun hHeld => ?_)
  clear hK' K'
  refine Hl.takeL (i := 14) (d := 26) (v := ?_) rfl (by kernel_rfl) (by kernel_rfl) (by kernel_rfl) (fun _ _ _ h => h) (by rfl) ?_ (by first | assumption | trivial) ?_
  rotate_left
  · intro w hSw; obtain ⟨y0, y1, y2, y3, y4, y5, y6, y7, y8, y9, y10⟩ := hSw.mat; go_simp; (try with_reducible rfl)
  simp only [Act.put, List.setIfInBounds_toArray, List.set_cons_zero, List.set_cons_succ]
  refine Hl.takeL (i := 15) (d := 27) (v := ?_) rfl (by kernel_rfl) (by kernel_rfl) (by kernel_rfl) (fun _ _ _ h => h) (by rfl) ?_ (by first | assumption | trivial) ?_
  rotate_left
  · intro w hSw; obtain ⟨y0, y1, y2, y3, y4, y5, y6, y7, y8, y9, y10⟩ := hSw.mat; go_simp; (try with_reducible rfl)
  simp only [Act.put, List.setIfInBounds_toArray, List.set_cons_zero, List.set_cons_succ]
  refine Hl.takeL (i := 16) (d := 28) (v := ?_) rfl (by kernel_rfl) (by kernel_rfl) (by kernel_rfl) (fun _ _ _ h => h) (by rfl) ?_ (by first | assumption | trivial) ?_
  rotate_left
  · intro w hSw; obtain ⟨y0, y1, y2, y3, y4, y5, y6, y7, y8, y9, y10⟩ := hSw.mat; go_simp; (try with_reducible rfl)
  simp only [Act.put, List.setIfInBounds_toArray, List.set_cons_zero, List.set_cons_succ]
  refine Hl.takeL (i := 17) (d := 29) (v := ?_) rfl (by kernel_rfl) (by kernel_rfl) (by kernel_rfl) (fun _ _ _ h => h) (by rfl) ?_ (by first | assumption | trivial) ?_
  rotate_left
  · intro w hSw; obtain ⟨y0, y1, y2, y3, y4, y5, y6, y7, y8, y9, y10⟩ := hSw.mat; go_simp; (try with_reducible rfl)
  simp only [Act.put, List.setIfInBounds_toArray, List.set_cons_zero, List.set_cons_succ]
  refine Hl.takeL (i := 19) (d := 31) (v := ?_) rfl (by kernel_rfl) (by kernel_rfl) (by kernel_rfl) (fun _ _ _ h => h) (by rfl) ?_ (by first | assumption | trivial) ?_
  rotate_left
  · intro w hSw; obtain ⟨y0, y1, y2, y3, y4, y5, y6, y7, y8, y9, y10⟩ := hSw.mat; go_simp; (try with_reducible rfl)
  simp only [Act.put, List.setIfInBounds_toArray, List.set_cons_zero, List.set_cons_succ]
  refine Hl.consL (i := 18) rfl (by kernel_rfl) (fun K' hK' => ?_)
  go_simp
  refine (HWt.out _ HX.out HS.out).mono ?_
  rintro e w8 ⟨rfl, hb⟩
  replace HX : Hid (Bx W w8 W.heap.size m a) := HX.out.on hb
  clear hb hHeld
  try go_wp2_with fail
  refine hK'.out _ _ HX.out.row (fun hHeld => ?_)
  clear hK' K'
  refine Hl.consL (i := 20) rfl (by kernel_rfl) (fun K' hK' => ?_)
  go_simp
  refine (HRw.out _ HX.out HS.out).mono ?_
  rintro e w9 ⟨rfl, hb⟩
  replace HX : Hid (Bx W w9 W.heap.size m a) := HX.out.on hb
  clear hb hHeld
  try go_wp2_with fail
  refine hK'.out _ _ HX.out.row (fun hHeld => ?_)
  clear hK' K'
  refine Hl.takeL (i := 21) (d := 33) (v := ?_) rfl (by kernel_rfl) (by kernel_rfl) (by kernel_rfl) (fun _ _ _ h => h) (by rfl) ?_ (by first | assumption | trivial) ?_
  rotate_left
  · intro w hSw; obtain ⟨y0, y1, y2, y3, y4, y5, y6, y7, y8, y9, y10⟩ := hSw.mat; go_simp; (try with_reducible rfl)
  simp only [Act.put, List.setIfInBounds_toArray, List.set_cons_zero, List.set_cons_succ]
  refine Hl.takeL (i := 22) (d := 34) (v := ?_) rfl (by kernel_rfl) (by kernel_rfl) (by kernel_rfl) (fun _ _ _ h => h) (by rfl) ?_ (by first | assumption | trivial) ?_
  rotate_left
  · intro w hSw; obtain ⟨y0, y1, y2, y3, y4, y5, y6, y7, y8, y9, y10⟩ := hSw.mat; go_simp; (try with_reducible rfl)
  simp only [Act.put, List.setIfInBounds_toArray, List.set_cons_zero, List.set_cons_succ]
  refine Hl.takeL (i := 23) (d := 6) (v := ?_) rfl (by kernel_rfl) (by kernel_rfl) (by kernel_rfl) (fun _ _ _ h => h) (by rfl) ?_ (by first | assumption | trivial) ?_
  rotate_left
  · intro w hSw; obtain ⟨y0, y1, y2, y3, y4, y5, y6, y7, y8, y9, y10⟩ := hSw.mat; go_simp; (try with_reducible rfl)
  simp only [Act.put, List.setIfInBounds_toArray, List.set_cons_zero, List.set_cons_succ]
  refine wpAnyH_done (by kernel_rfl) ?_ _
  clear hHeld
  go_wp2
  go_ret
  exact ⟨rfl, HX.out.below⟩
end Go.Proofs.YtlfhneiddfgoaaaDoor.planTells
