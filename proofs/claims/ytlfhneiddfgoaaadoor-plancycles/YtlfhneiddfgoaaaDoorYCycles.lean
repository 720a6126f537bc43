/- PlanCycles: of every matrix of few entries that passes: what is due in a cycle is due again after all Cycles (others are let by); no condition. -/
import Derived.Test.YtlfhneiddfgoaaaDoorYg
import Derived.Test.YtlfhneiddfgoaaaDoorYh
import Derived.Test.YtlfhneiddfgoaaaDoorBj
import Derived.ProofKit
import Derived.OpenShut
namespace Go.Proofs.YtlfhneiddfgoaaaDoor.planCycles
open Go.ChangeShapes Go.WideShapes Go.ChangeAt Go.RowKit
set_option linter.unusedVariables false
variable {Q : World → Prop}
set_option maxRecDepth 100000 in
set_option maxHeartbeats 8000000 in
theorem walkA (hQ : ∀ w w', Q w → Below w.heap.size w w' → Q w') (S : PlanSpec Q) (m : Mx.M) (a : Ma) (p q : Int) {W0 : World} (hm : MIn W0 m a) (hwf : Mx.Wf m) (h1 : (Lit.int .u8 p).wf = true) (h2 : (Lit.int .u8 q).wf = true) (W : World) (hw0 : W = W0) (hW : Q W) :
    Calls Tryd.prog 7 #[mV m a, .int .u8 p, .int .u8 q] W fun e w' => e = .returned (.bool true) ∧ Below W.heap.size W w' := by
  subst hw0
  have HQ : Hid (∀ w, Below W.heap.size W w → Q w) := fun w hb => hQ W w hW hb
  have HK : Hid (∀ w, Below W.heap.size W w → Calls Tryd.prog 9 #[] w fun e w' => e = .returned (.bool true) ∧ Below w.heap.size w w') := fun w hb => known15_any hQ S w (HQ.out _ hb)
  have HPl : Hid (∀ w who, Bx W w W.heap.size m a → Mx.Small m → (Lit.int .i64 who).wf = true → Calls Tryd.prog 12 #[mV m a, .int .i64 who] w fun e w' => ∃ s c n, n = (Yq.plan m who).length ∧ e = .returned (.slice s n c) ∧ LI w' s c n ((Yq.plan m who).flatMap tC) ∧ Below w.heap.size w w') := fun w who h hs hw => S.plan w m a who (HQ.out _ h.below) h.mem hs hwf hw
  have HWt : Hid (∀ w, Bx W w W.heap.size m a → Mx.Small m → Calls Tryd.prog 16 #[mV m a] w fun e w' => e = .returned (.int .i64 (Yq.watch m)) ∧ Below w.heap.size w w') := fun w h hs => S.watch w m a (HQ.out _ h.below) h.mem hs hwf
  have HDu : Hid (∀ (w : World) (l : List Yq.Tr) (s : Option Addr) (c n : Nat) (cy lo hi : Int), Below W.heap.size W w → n = l.length → LI w s c n (l.flatMap tC) → l.length ≤ 1000 → (∀ t ∈ l, Yq.Wf t) → (Lit.int .i64 cy).wf = true → (Lit.int .i64 lo).wf = true → (Lit.int .i64 hi).wf = true → Calls Tryd.prog 18 #[.slice s n c, .int .i64 cy, .int .i64 lo, .int .i64 hi] w fun e w' => ∃ s c n, n = (Yq.due l cy lo hi).length ∧ e = .returned (.slice s n c) ∧ LI w' s c n ((Yq.due l cy lo hi).flatMap tC) ∧ Below w.heap.size w w') := fun w l s c n cy lo hi hb hn hl h1 h2 h3 h4 h5 => by subst hn; exact S.due w l s c cy lo hi (HQ.out _ hb) hl h1 h2 h3 h4 h5
  have HSa : Hid (∀ (w : World) (l : List Yq.Tr) (s t : Option Addr) (c d n k : Nat), n = l.length → k = l.length → LI w s c n (l.flatMap tC) → LI w t d k (l.flatMap tC) → l.length ≤ 1000 → Calls Tryd.prog 11 #[.slice s n c, .slice t k d] w fun e w' => e = .returned (.bool true) ∧ Below w.heap.size w w') := fun w l s t c d n k h1 h2 hl hr hn => by subst h1 h2; have := same15_any w l l s t c d hl hr hn hn; rwa [decide_eq_true rfl] at this
  have HCa : Hid (∀ w, Bx W w W.heap.size m a → Calls Tryd.prog 21 #[mV m a] w fun e w' => e = .returned (.tuple #[.int .i64 (Lq.check m).1, .int .i64 (Lq.check m).2]) ∧ Below w.heap.size w w') := fun w h => rcheck_all w m a h.mem hwf
  have hp : 0 ≤ p ∧ p < 256 := u8rng h1
  have hq : 0 ≤ q ∧ q < 256 := u8rng h2
  have HX : Hid (Bx W (W.alloc (.cells (mCs m a) 27)) W.heap.size m a) := Bx.mk' hm
  clear hm hQ hW
  go_enter Tryd.func7, Tryd.ntmps7
  clear h1 h2 hwf
  go_wp2_with fail
  refine (HK.out _ HX.out.below).mono ?_
  rintro e w1 ⟨rfl, hb⟩
  replace HX : Hid (Bx W w1 W.heap.size m a) := HX.out.on hb
  clear hb HK
  obtain ⟨y0, y1, y2, y3, y4, y5, y6, y7, y8, y9, y10⟩ := HX.out.row.mat
  go_wp2_with fail
  refine (HCa.out _ HX.out).mono ?_
  rintro e w2 ⟨rfl, hb⟩
  replace HX : Hid (Bx W w2 W.heap.size m a) := HX.out.on hb
  clear y0 y1 y10 y2 y3 y4 y5 y6 y7 y8 y9
  clear hb HCa
  obtain ⟨y0, y1, y2, y3, y4, y5, y6, y7, y8, y9, y10⟩ := HX.out.row.mat
  go_wp2_with fail
  refine (few15_any w2 m a).mono ?_
  rintro e w3 ⟨rfl, hb⟩
  replace HX : Hid (Bx W w3 W.heap.size m a) := HX.out.on hb
  clear y0 y1 y10 y2 y3 y4 y5 y6 y7 y8 y9
  clear hb
  obtain ⟨ck, hck⟩ : ∃ z, (Lq.check m).2 = z := ⟨_, rfl⟩
  have HCk : Hid ((Lq.check m).2 = ck) := hck
  rw [hck]
  clear hck
  generalize (Lq.check m).1 = ck1
  cases hfw : Mx.few m
  · go_wp2
    go_ret
    exact ⟨rfl, HX.out.below⟩
  have HS : Hid (Mx.Small m) := Mx.few_small hfw
  clear hfw
  by_cases hc0 : ck = 0
  rotate_left
  · have hcb : (ck != 0) = true := bne_iff_ne.2 hc0
    go_wp2
    go_ret
    exact ⟨rfl, HX.out.below⟩
  subst hc0
  have HP : Hid (Lq.Passes m) := Lq.passes_of HCk.out
  clear HCk
  have hnd := Lq.cyc_of HP.out.is
  obtain ⟨cy1, cy2, _, _, _, _, _, _, _, nd1, nd2⟩ := hnd
  obtain ⟨who, hwho⟩ : ∃ z, p.tmod m.nodes = z := ⟨_, rfl⟩
  have hwr : 0 ≤ who ∧ who < m.nodes := by rw [← hwho, Int.tmod_eq_emod_of_nonneg hp.1]; exact ⟨Int.emod_nonneg _ (by omega), Int.emod_lt_of_pos _ (by omega)⟩
  have np : ¬ (m.nodes = 0) := by omega
  have w1p : IntKind.i64.wrap p = p := by rw [IntKind.wrap_i64]; omega
  have w2p : IntKind.i64.wrap (p.tmod m.nodes) = who := by rw [hwho, IntKind.wrap_i64]; omega
  have HWho : Hid ((Lit.int .i64 who).wf = true) := wfi (by omega)
  have HWr : Hid (0 ≤ who ∧ who < m.nodes) := hwr
  have HCy : Hid (1 ≤ m.cycles ∧ m.cycles ≤ 8) := ⟨cy1, cy2⟩
  clear cy1 cy2 nd1 nd2 hwr
  go_upto_region 6 with fail
  have hbd : Below w3.heap.size w3 w3.drew := (Below.refl _ _).drew
  replace HX : Hid (Bx W w3.drew W.heap.size m a) := HX.out.on hbd
  clear hbd
  refine wp_region_held_drew (S := fun w' => RowT 27 w' W.heap.size (mCs m a)) (by kernel_rfl) HX.out.row (fun hHeld => ?_)
  refine Hl.takeL (i := 0) (d := 26) (v := ?_) rfl (by kernel_rfl) (by kernel_rfl) (by kernel_rfl) (fun _ _ _ h => h) (by rfl) ?_ (by first | assumption | trivial) ?_
  rotate_left
  · intro w hSw; obtain ⟨y0, y1, y2, y3, y4, y5, y6, y7, y8, y9, y10⟩ := hSw.mat; go_simp; (try with_reducible rfl)
  simp only [Act.put, List.setIfInBounds_toArray, List.set_cons_zero, List.set_cons_succ]
  refine Hl.takeL (i := 1) (d := 27) (v := ?_) rfl (by kernel_rfl) (by kernel_rfl) (by kernel_rfl) (fun _ _ _ h => h) (by rfl) ?_ (by first | assumption | trivial) ?_
  rotate_left
  · intro w hSw; obtain ⟨y0, y1, y2, y3, y4, y5, y6, y7, y8, y9, y10⟩ := hSw.mat; go_simp; (try with_reducible rfl)
  simp only [Act.put, List.setIfInBounds_toArray, List.set_cons_zero, List.set_cons_succ]
  refine Hl.takeL (i := 2) (d := 28) (v := ?_) rfl (by kernel_rfl) (by kernel_rfl) (by kernel_rfl) (fun _ _ _ h => h) (by rfl) ?_ (by first | assumption | trivial) ?_
  rotate_left
  · intro w hSw; obtain ⟨y0, y1, y2, y3, y4, y5, y6, y7, y8, y9, y10⟩ := hSw.mat; go_simp; (try with_reducible rfl)
  simp only [Act.put, List.setIfInBounds_toArray, List.set_cons_zero, List.set_cons_succ]
  refine Hl.takeL (i := 3) (d := 29) (v := ?_) rfl (by kernel_rfl) (by kernel_rfl) (by kernel_rfl) (fun _ _ _ h => h) (by rfl) ?_ (by first | assumption | trivial) ?_
  rotate_left
  · intro w hSw; obtain ⟨y0, y1, y2, y3, y4, y5, y6, y7, y8, y9, y10⟩ := hSw.mat; go_simp; (try with_reducible rfl)
  simp only [Act.put, List.setIfInBounds_toArray, List.set_cons_zero, List.set_cons_succ]
  refine Hl.takeL (i := 4) (d := 30) (v := ?_) rfl (by kernel_rfl) (by kernel_rfl) (by kernel_rfl) (fun _ _ _ h => h) (by rfl) ?_ (by first | assumption | trivial) ?_
  rotate_left
  · intro w hSw; obtain ⟨y0, y1, y2, y3, y4, y5, y6, y7, y8, y9, y10⟩ := hSw.mat; go_simp; (try with_reducible rfl)
  simp only [Act.put, List.setIfInBounds_toArray, List.set_cons_zero, List.set_cons_succ]
  refine Hl.takeL (i := 5) (d := 31) (v := ?_) rfl (by kernel_rfl) (by kernel_rfl) (by kernel_rfl) (fun _ _ _ h => h) (by rfl) ?_ (by first | assumption | trivial) ?_
  rotate_left
  · intro w hSw; obtain ⟨y0, y1, y2, y3, y4, y5, y6, y7, y8, y9, y10⟩ := hSw.mat; go_simp; (try with_reducible rfl)
  simp only [Act.put, List.setIfInBounds_toArray, List.set_cons_zero, List.set_cons_succ]
  refine Hl.consL (i := 6) rfl (by kernel_rfl) (fun K' hK' => ?_)
  go_simp
  refine (HPl.out _ who HX.out HS.out HWho.out).mono ?_
  rintro e w4 ⟨s1, c1, n1, hn, rfl, hl, hb⟩
  replace HX : Hid (Bx W w4 W.heap.size m a) := HX.out.on hb
  have HN1 : Hid (n1 = (Yq.plan m who).length) := hn
  have HL1 : Hid (LI w4 s1 c1 n1 ((Yq.plan m who).flatMap tC)) := hl
  clear hn hl
  clear hb hHeld
  try go_wp2_with fail
  refine hK'.out _ _ HX.out.row (fun hHeld => ?_)
  clear hK' K'
  refine Hl.takeL (i := 7) (d := 9) (v := ?_) rfl (by kernel_rfl) (by kernel_rfl) (by kernel_rfl) (fun _ _ _ h => h) (by rfl) ?_ (by first | assumption | trivial) ?_
  rotate_left
  · intro w hSw; obtain ⟨y0, y1, y2, y3, y4, y5, y6, y7, y8, y9, y10⟩ := hSw.mat; go_simp; (try with_reducible rfl)
  simp only [Act.put, List.setIfInBounds_toArray, List.set_cons_zero, List.set_cons_succ]
  refine wpAnyH_done (by kernel_rfl) ?_ _
  clear hHeld
  clear hwho np w1p w2p HWho
  obtain ⟨x, hx⟩ : ∃ x, q.tmod 8 = x := ⟨_, rfl⟩
  have hx8 : 0 ≤ x ∧ x ≤ 7 := by rw [← hx, Int.tmod_eq_emod_of_nonneg hq.1]; omega
  obtain ⟨x1, x2⟩ := hx8
  have wx : IntKind.i64.wrap x = x := by rw [IntKind.wrap_i64]; omega
  have ux : IntKind.u8.wrap x = x := by rw [IntKind.wrap_u8]; omega
  clear hp hq
  obtain ⟨z0, z1, z2, z3, z4, z5, z6, z7, z8, z9, z10⟩ := HX.out.row.mat
  go_wp2_with fail
  refine (HWt.out _ HX.out HS.out).mono ?_
  rintro e w5 ⟨rfl, hb⟩
  replace HX : Hid (Bx W w5 W.heap.size m a) := HX.out.on hb
  replace HL1 : Hid (LI w5 s1 c1 n1 ((Yq.plan m who).flatMap tC)) := HL1.out.on hb
  clear hb HWt hx wx ux
  clear z0 z1 z10 z2 z3 z4 z5 z6 z7 z8 z9
  have hwt := Yq.watch_rng HP.out.is
  have hcy := HCy.out
  have e1 := Yq.due_again HP.out who (c := x) (lo := 0) (hi := Yq.watch m) x1
  have e2 := Yq.due_none HP.out who x
  have e3 := Yq.due_watch HP.out who (c := x) x1
  have HLp : Hid ((Yq.plan m who).length ≤ 1000) := Yq.plan_len m who HS.out
  have HWf : Hid (∀ t ∈ Yq.plan m who, Yq.Wf t) := fun t ht => Yq.plan_wf HP.out ht
  have HDl : Hid (∀ c lo hi, (Yq.due (Yq.plan m who) c lo hi).length ≤ 1000) := fun c lo hi => Nat.le_trans (List.length_filter_le _ _) HLp.out
  obtain ⟨C, hC⟩ : ∃ C, x + m.cycles = C := ⟨_, rfl⟩
  have f1 : IntKind.i64.wrap (x + m.cycles) = C := by rw [hC, IntKind.wrap_i64]; omega
  have f2 : IntKind.i64.wrap (Yq.watch m + 1) = Yq.watch m + 1 := by rw [IntKind.wrap_i64]; omega
  have f3 : IntKind.i64.wrap (Yq.watch m - 1) = Yq.watch m - 1 := by rw [IntKind.wrap_i64]; omega
  have hC2 : 0 ≤ C ∧ C ≤ 100 := by omega
  rw [hC] at e1
  have HE1 : Hid (Yq.due (Yq.plan m who) C 0 (Yq.watch m) = Yq.due (Yq.plan m who) x 0 (Yq.watch m)) := e1
  have HE2 : Hid ((Yq.due (Yq.plan m who) x (Yq.watch m) (Yq.watch m + 1)).length = 0) := by show _ = _; rw [e2]; rfl
  have HE3 : Hid (1 ≤ (Yq.due (Yq.plan m who) x (Yq.watch m - 1) (Yq.watch m)).length) := e3
  have HV1 : Hid ((Lit.int .i64 x).wf = true) := wfi (by omega)
  have HV2 : Hid ((Lit.int .i64 C).wf = true) := wfi (by omega)
  have HV3 : Hid ((Lit.int .i64 (Yq.watch m)).wf = true) := wfi (by omega)
  have HV4 : Hid ((Lit.int .i64 (Yq.watch m + 1)).wf = true) := wfi (by omega)
  have HV5 : Hid ((Lit.int .i64 (Yq.watch m - 1)).wf = true) := wfi (by omega)
  have HV0 : Hid ((Lit.int .i64 0).wf = true) := wfi (by omega)
  clear e1 e2 e3 hC hC2 hwt hcy x1 x2 HCy HWr
  generalize Yq.watch m = top at *
  go_upto_region 9 with fail
  have hbd : Below w5.heap.size w5 w5.drew := (Below.refl _ _).drew
  replace HX : Hid (Bx W w5.drew W.heap.size m a) := HX.out.on hbd
  replace HL1 : Hid (LI w5.drew s1 c1 n1 ((Yq.plan m who).flatMap tC)) := HL1.out.on hbd
  clear hbd
  refine wp_region_held_drew (S := fun w' => RowT 27 w' W.heap.size (mCs m a)) (by kernel_rfl) HX.out.row (fun hHeld => ?_)
  refine Hl.takeL (i := 0) (d := 38) (v := ?_) rfl (by kernel_rfl) (by kernel_rfl) (by kernel_rfl) (fun _ _ _ h => h) (by rfl) ?_ (by first | assumption | trivial) ?_
  rotate_left
  · intro w hSw; obtain ⟨y0, y1, y2, y3, y4, y5, y6, y7, y8, y9, y10⟩ := hSw.mat; go_simp; (try with_reducible rfl)
  simp only [Act.put, List.setIfInBounds_toArray, List.set_cons_zero, List.set_cons_succ]
  refine Hl.takeL (i := 1) (d := 39) (v := ?_) rfl (by kernel_rfl) (by kernel_rfl) (by kernel_rfl) (fun _ _ _ h => h) (by rfl) ?_ (by first | assumption | trivial) ?_
  rotate_left
  · intro w hSw; obtain ⟨y0, y1, y2, y3, y4, y5, y6, y7, y8, y9, y10⟩ := hSw.mat; go_simp; (try with_reducible rfl)
  simp only [Act.put, List.setIfInBounds_toArray, List.set_cons_zero, List.set_cons_succ]
  refine Hl.takeL (i := 2) (d := 40) (v := ?_) rfl (by kernel_rfl) (by kernel_rfl) (by kernel_rfl) (fun _ _ _ h => h) (by rfl) ?_ (by first | assumption | trivial) ?_
  rotate_left
  · intro w hSw; obtain ⟨y0, y1, y2, y3, y4, y5, y6, y7, y8, y9, y10⟩ := hSw.mat; go_simp; (try with_reducible rfl)
  simp only [Act.put, List.setIfInBounds_toArray, List.set_cons_zero, List.set_cons_succ]
  refine Hl.takeL (i := 4) (d := 42) (v := ?_) rfl (by kernel_rfl) (by kernel_rfl) (by kernel_rfl) (fun _ _ _ h => h) (by rfl) ?_ (by first | assumption | trivial) ?_
  rotate_left
  · intro w hSw; obtain ⟨y0, y1, y2, y3, y4, y5, y6, y7, y8, y9, y10⟩ := hSw.mat; go_simp; (try with_reducible rfl)
  simp only [Act.put, List.setIfInBounds_toArray, List.set_cons_zero, List.set_cons_succ]
  refine Hl.takeL (i := 5) (d := 43) (v := ?_) rfl (by kernel_rfl) (by kernel_rfl) (by kernel_rfl) (fun _ _ _ h => h) (by rfl) ?_ (by first | assumption | trivial) ?_
  rotate_left
  · intro w hSw; obtain ⟨y0, y1, y2, y3, y4, y5, y6, y7, y8, y9, y10⟩ := hSw.mat; go_simp; (try with_reducible rfl)
  simp only [Act.put, List.setIfInBounds_toArray, List.set_cons_zero, List.set_cons_succ]
  refine Hl.takeL (i := 6) (d := 44) (v := ?_) rfl (by kernel_rfl) (by kernel_rfl) (by kernel_rfl) (fun _ _ _ h => h) (by rfl) ?_ (by first | assumption | trivial) ?_
  rotate_left
  · intro w hSw; obtain ⟨y0, y1, y2, y3, y4, y5, y6, y7, y8, y9, y10⟩ := hSw.mat; go_simp; (try with_reducible rfl)
  simp only [Act.put, List.setIfInBounds_toArray, List.set_cons_zero, List.set_cons_succ]
  refine Hl.takeL (i := 7) (d := 45) (v := ?_) rfl (by kernel_rfl) (by kernel_rfl) (by kernel_rfl) (fun _ _ _ h => h) (by rfl) ?_ (by first | assumption | trivial) ?_
  rotate_left
  · intro w hSw; obtain ⟨y0, y1, y2, y3, y4, y5, y6, y7, y8, y9, y10⟩ := hSw.mat; go_simp; (try with_reducible rfl)
  simp only [Act.put, List.setIfInBounds_toArray, List.set_cons_zero, List.set_cons_succ]
  refine Hl.takeL (i := 8) (d := 46) (v := ?_) rfl (by kernel_rfl) (by kernel_rfl) (by kernel_rfl) (fun _ _ _ h => h) (by rfl) ?_ (by first | assumption | trivial) ?_
  rotate_left
  · intro w hSw; obtain ⟨y0, y1, y2, y3, y4, y5, y6, y7, y8, y9, y10⟩ := hSw.mat; go_simp; (try with_reducible rfl)
  simp only [Act.put, List.setIfInBounds_toArray, List.set_cons_zero, List.set_cons_succ]
  refine Hl.takeL (i := 9) (d := 47) (v := ?_) rfl (by kernel_rfl) (by kernel_rfl) (by kernel_rfl) (fun _ _ _ h => h) (by rfl) ?_ (by first | assumption | trivial) ?_
  rotate_left
  · intro w hSw; obtain ⟨y0, y1, y2, y3, y4, y5, y6, y7, y8, y9, y10⟩ := hSw.mat; go_simp; (try with_reducible rfl)
  simp only [Act.put, List.setIfInBounds_toArray, List.set_cons_zero, List.set_cons_succ]
  refine Hl.consL (i := 3) rfl (by kernel_rfl) (fun K' hK' => ?_)
  go_simp
  refine (HDu.out _ (Yq.plan m who) _ _ _ x 0 top HX.out.below HN1.out HL1.out HLp.out HWf.out HV1.out HV0.out HV3.out).mono ?_
  rintro e w6 ⟨s2, c2, n2, hn, rfl, hl, hb⟩
  replace HX : Hid (Bx W w6 W.heap.size m a) := HX.out.on hb
  replace HL1 : Hid (LI w6 s1 c1 n1 ((Yq.plan m who).flatMap tC)) := HL1.out.on hb
  have HN2 : Hid (n2 = (Yq.due (Yq.plan m who) x 0 top).length) := hn
  have HL2 : Hid (LI w6 s2 c2 n2 ((Yq.due (Yq.plan m who) x 0 top).flatMap tC)) := hl
  clear hn hl
  clear hb hHeld
  try go_wp2_with fail
  refine hK'.out _ _ HX.out.row (fun hHeld => ?_)
  clear hK' K'
  refine Hl.consL (i := 10) rfl (by kernel_rfl) (fun K' hK' => ?_)
  go_simp
  refine (HDu.out _ (Yq.plan m who) _ _ _ C 0 top HX.out.below HN1.out HL1.out HLp.out HWf.out HV2.out HV0.out HV3.out).mono ?_
  rintro e w7 ⟨s3, c3, n3, hn, rfl, hl, hb⟩
  replace HX : Hid (Bx W w7 W.heap.size m a) := HX.out.on hb
  replace HL1 : Hid (LI w7 s1 c1 n1 ((Yq.plan m who).flatMap tC)) := HL1.out.on hb
  replace HL2 : Hid (LI w7 s2 c2 n2 ((Yq.due (Yq.plan m who) x 0 top).flatMap tC)) := HL2.out.on hb
  have HN3 : Hid (n3 = (Yq.due (Yq.plan m who) C 0 top).length) := hn
  have HL3 : Hid (LI w7 s3 c3 n3 ((Yq.due (Yq.plan m who) C 0 top).flatMap tC)) := hl
  clear hn hl
  clear hb hHeld
  try go_wp2_with fail
  refine hK'.out _ _ HX.out.row (fun hHeld => ?_)
  clear hK' K'
  rw [HE1.out] at HN3 HL3
  refine Hl.consL (i := 11) rfl (by kernel_rfl) (fun K' hK' => ?_)
  go_simp
  refine (HSa.out _ (Yq.due (Yq.plan m who) x 0 top) _ _ _ _ _ _ HN2.out HN3.out HL2.out HL3.out (HDl.out _ _ _)).mono ?_
  rintro e w8 ⟨rfl, hb⟩
  replace HX : Hid (Bx W w8 W.heap.size m a) := HX.out.on hb
  replace HL1 : Hid (LI w8 s1 c1 n1 ((Yq.plan m who).flatMap tC)) := HL1.out.on hb
  replace HL2 : Hid (LI w8 s2 c2 n2 ((Yq.due (Yq.plan m who) x 0 top).flatMap tC)) := HL2.out.on hb
  replace HL3 : Hid (LI w8 s3 c3 n3 ((Yq.due (Yq.plan m who) x 0 top).flatMap tC)) := HL3.out.on hb
  clear hb hHeld
  try go_wp2_with fail
  refine hK'.out _ _ HX.out.row (fun hHeld => ?_)
  clear hK' K'
  refine Hl.takeL (i := 12) (d := 50) (v := ?_) rfl (by kernel_rfl) (by kernel_rfl) (by kernel_rfl) (fun _ _ _ h => h) (by rfl) ?_ (by first | assumption | trivial) ?_
  rotate_left
  · intro w hSw; obtain ⟨y0, y1, y2, y3, y4, y5, y6, y7, y8, y9, y10⟩ := hSw.mat; go_simp; (try with_reducible rfl)
  simp only [Act.put, List.setIfInBounds_toArray, List.set_cons_zero, List.set_cons_succ]
  refine Hl.takeL (i := 13) (d := 51) (v := ?_) rfl (by kernel_rfl) (by kernel_rfl) (by kernel_rfl) (fun _ _ _ h => h) (by rfl) ?_ (by first | assumption | trivial) ?_
  rotate_left
  · intro w hSw; obtain ⟨y0, y1, y2, y3, y4, y5, y6, y7, y8, y9, y10⟩ := hSw.mat; go_simp; (try with_reducible rfl)
  simp only [Act.put, List.setIfInBounds_toArray, List.set_cons_zero, List.set_cons_succ]
  refine Hl.takeL (i := 14) (d := 52) (v := ?_) rfl (by kernel_rfl) (by kernel_rfl) (by kernel_rfl) (fun _ _ _ h => h) (by rfl) ?_ (by first | assumption | trivial) ?_
  rotate_left
  · intro w hSw; obtain ⟨y0, y1, y2, y3, y4, y5, y6, y7, y8, y9, y10⟩ := hSw.mat; go_simp; (try with_reducible rfl)
  simp only [Act.put, List.setIfInBounds_toArray, List.set_cons_zero, List.set_cons_succ]
  refine Hl.takeL (i := 15) (d := 53) (v := ?_) rfl (by kernel_rfl) (by kernel_rfl) (by kernel_rfl) (fun _ _ _ h => h) (by rfl) ?_ (by first | assumption | trivial) ?_
  rotate_left
  · intro w hSw; obtain ⟨y0, y1, y2, y3, y4, y5, y6, y7, y8, y9, y10⟩ := hSw.mat; go_simp; (try with_reducible rfl)
  simp only [Act.put, List.setIfInBounds_toArray, List.set_cons_zero, List.set_cons_succ]
  refine Hl.takeL (i := 16) (d := 54) (v := ?_) rfl (by kernel_rfl) (by kernel_rfl) (by kernel_rfl) (fun _ _ _ h => h) (by rfl) ?_ (by first | assumption | trivial) ?_
  rotate_left
  · intro w hSw; obtain ⟨y0, y1, y2, y3, y4, y5, y6, y7, y8, y9, y10⟩ := hSw.mat; go_simp; (try with_reducible rfl)
  simp only [Act.put, List.setIfInBounds_toArray, List.set_cons_zero, List.set_cons_succ]
  refine Hl.takeL (i := 17) (d := 55) (v := ?_) rfl (by kernel_rfl) (by kernel_rfl) (by kernel_rfl) (fun _ _ _ h => h) (by rfl) ?_ (by first | assumption | trivial) ?_
  rotate_left
  · intro w hSw; obtain ⟨y0, y1, y2, y3, y4, y5, y6, y7, y8, y9, y10⟩ := hSw.mat; go_simp; (try with_reducible rfl)
  simp only [Act.put, List.setIfInBounds_toArray, List.set_cons_zero, List.set_cons_succ]
  refine Hl.consL (i := 18) rfl (by kernel_rfl) (fun K' hK' => ?_)
  go_simp
  refine (HDu.out _ (Yq.plan m who) _ _ _ x top (top + 1) HX.out.below HN1.out HL1.out HLp.out HWf.out HV1.out HV3.out HV4.out).mono ?_
  rintro e w9 ⟨s4, c4, n4, hn, rfl, hl, hb⟩
  replace HX : Hid (Bx W w9 W.heap.size m a) := HX.out.on hb
  replace HL1 : Hid (LI w9 s1 c1 n1 ((Yq.plan m who).flatMap tC)) := HL1.out.on hb
  have HN4 : Hid (n4 = (Yq.due (Yq.plan m who) x top (top + 1)).length) := hn
  have HL4 : Hid (LI w9 s4 c4 n4 ((Yq.due (Yq.plan m who) x top (top + 1)).flatMap tC)) := hl
  clear hn hl
  clear hb hHeld
  try go_wp2_with fail
  refine hK'.out _ _ HX.out.row (fun hHeld => ?_)
  clear hK' K'
  obtain rfl : n4 = 0 := by rw [HN4.out, HE2.out]
  refine Hl.takeL (i := 19) (d := 57) (v := ?_) rfl (by kernel_rfl) (by kernel_rfl) (by kernel_rfl) (fun _ _ _ h => h) (by rfl) ?_ (by first | assumption | trivial) ?_
  rotate_left
  · intro w hSw; obtain ⟨y0, y1, y2, y3, y4, y5, y6, y7, y8, y9, y10⟩ := hSw.mat; go_simp; (try with_reducible rfl)
  simp only [Act.put, List.setIfInBounds_toArray, List.set_cons_zero, List.set_cons_succ]
  refine Hl.takeL (i := 20) (d := 58) (v := ?_) rfl (by kernel_rfl) (by kernel_rfl) (by kernel_rfl) (fun _ _ _ h => h) (by rfl) ?_ (by first | assumption | trivial) ?_
  rotate_left
  · intro w hSw; obtain ⟨y0, y1, y2, y3, y4, y5, y6, y7, y8, y9, y10⟩ := hSw.mat; go_simp; (try with_reducible rfl)
  simp only [Act.put, List.setIfInBounds_toArray, List.set_cons_zero, List.set_cons_succ]
  refine Hl.takeL (i := 21) (d := 59) (v := ?_) rfl (by kernel_rfl) (by kernel_rfl) (by kernel_rfl) (fun _ _ _ h => h) (by rfl) ?_ (by first | assumption | trivial) ?_
  rotate_left
  · intro w hSw; obtain ⟨y0, y1, y2, y3, y4, y5, y6, y7, y8, y9, y10⟩ := hSw.mat; go_simp; (try with_reducible rfl)
  simp only [Act.put, List.setIfInBounds_toArray, List.set_cons_zero, List.set_cons_succ]
  refine Hl.takeL (i := 22) (d := 60) (v := ?_) rfl (by kernel_rfl) (by kernel_rfl) (by kernel_rfl) (fun _ _ _ h => h) (by rfl) ?_ (by first | assumption | trivial) ?_
  rotate_left
  · intro w hSw; obtain ⟨y0, y1, y2, y3, y4, y5, y6, y7, y8, y9, y10⟩ := hSw.mat; go_simp; (try with_reducible rfl)
  simp only [Act.put, List.setIfInBounds_toArray, List.set_cons_zero, List.set_cons_succ]
  refine Hl.takeL (i := 23) (d := 61) (v := ?_) rfl (by kernel_rfl) (by kernel_rfl) (by kernel_rfl) (fun _ _ _ h => h) (by rfl) ?_ (by first | assumption | trivial) ?_
  rotate_left
  · intro w hSw; obtain ⟨y0, y1, y2, y3, y4, y5, y6, y7, y8, y9, y10⟩ := hSw.mat; go_simp; (try with_reducible rfl)
  simp only [Act.put, List.setIfInBounds_toArray, List.set_cons_zero, List.set_cons_succ]
  refine Hl.takeL (i := 24) (d := 62) (v := ?_) rfl (by kernel_rfl) (by kernel_rfl) (by kernel_rfl) (fun _ _ _ h => h) (by rfl) ?_ (by first | assumption | trivial) ?_
  rotate_left
  · intro w hSw; obtain ⟨y0, y1, y2, y3, y4, y5, y6, y7, y8, y9, y10⟩ := hSw.mat; go_simp; (try with_reducible rfl)
  simp only [Act.put, List.setIfInBounds_toArray, List.set_cons_zero, List.set_cons_succ]
  refine Hl.takeL (i := 25) (d := 63) (v := ?_) rfl (by kernel_rfl) (by kernel_rfl) (by kernel_rfl) (fun _ _ _ h => h) (by rfl) ?_ (by first | assumption | trivial) ?_
  rotate_left
  · intro w hSw; obtain ⟨y0, y1, y2, y3, y4, y5, y6, y7, y8, y9, y10⟩ := hSw.mat; go_simp; (try with_reducible rfl)
  simp only [Act.put, List.setIfInBounds_toArray, List.set_cons_zero, List.set_cons_succ]
  refine Hl.takeL (i := 26) (d := 64) (v := ?_) rfl (by kernel_rfl) (by kernel_rfl) (by kernel_rfl) (fun _ _ _ h => h) (by rfl) ?_ (by first | assumption | trivial) ?_
  rotate_left
  · intro w hSw; obtain ⟨y0, y1, y2, y3, y4, y5, y6, y7, y8, y9, y10⟩ := hSw.mat; go_simp; (try with_reducible rfl)
  simp only [Act.put, List.setIfInBounds_toArray, List.set_cons_zero, List.set_cons_succ]
  refine Hl.takeL (i := 27) (d := 65) (v := ?_) rfl (by kernel_rfl) (by kernel_rfl) (by kernel_rfl) (fun _ _ _ h => h) (by rfl) ?_ (by first | assumption | trivial) ?_
  rotate_left
  · intro w hSw; obtain ⟨y0, y1, y2, y3, y4, y5, y6, y7, y8, y9, y10⟩ := hSw.mat; go_simp; (try with_reducible rfl)
  simp only [Act.put, List.setIfInBounds_toArray, List.set_cons_zero, List.set_cons_succ]
  refine Hl.consL (i := 28) rfl (by kernel_rfl) (fun K' hK' => ?_)
  go_simp
  refine (HDu.out _ (Yq.plan m who) _ _ _ x (top - 1) top HX.out.below HN1.out HL1.out HLp.out HWf.out HV1.out HV5.out HV3.out).mono ?_
  rintro e w10 ⟨s5, c5, n5, hn, rfl, hl, hb⟩
  replace HX : Hid (Bx W w10 W.heap.size m a) := HX.out.on hb
  replace HL1 : Hid (LI w10 s1 c1 n1 ((Yq.plan m who).flatMap tC)) := HL1.out.on hb
  have HN5 : Hid (n5 = (Yq.due (Yq.plan m who) x (top - 1) top).length) := hn
  have HL5 : Hid (LI w10 s5 c5 n5 ((Yq.due (Yq.plan m who) x (top - 1) top).flatMap tC)) := hl
  clear hn hl
  clear hb hHeld
  try go_wp2_with fail
  refine hK'.out _ _ HX.out.row (fun hHeld => ?_)
  clear hK' K'
  have g5 : (1 : Int) ≤ (n5 : Int) := by have := HE3.out; have := HN5.out; omega
  refine Hl.takeL (i := 29) (d := 67) (v := ?_) rfl (by kernel_rfl) (by kernel_rfl) (by kernel_rfl) (fun _ _ _ h => h) (by rfl) ?_ (by first | assumption | trivial) ?_
  rotate_left
  · intro w hSw; obtain ⟨y0, y1, y2, y3, y4, y5, y6, y7, y8, y9, y10⟩ := hSw.mat; go_simp; (try with_reducible rfl)
  simp only [Act.put, List.setIfInBounds_toArray, List.set_cons_zero, List.set_cons_succ]
  refine Hl.takeL (i := 30) (d := 68) (v := ?_) rfl (by kernel_rfl) (by kernel_rfl) (by kernel_rfl) (fun _ _ _ h => h) (by rfl) ?_ (by first | assumption | trivial) ?_
  rotate_left
  · intro w hSw; obtain ⟨y0, y1, y2, y3, y4, y5, y6, y7, y8, y9, y10⟩ := hSw.mat; go_simp; (try with_reducible rfl)
  simp only [Act.put, List.setIfInBounds_toArray, List.set_cons_zero, List.set_cons_succ]
  refine Hl.takeL (i := 31) (d := 69) (v := ?_) rfl (by kernel_rfl) (by kernel_rfl) (by kernel_rfl) (fun _ _ _ h => h) (by rfl) ?_ (by first | assumption | trivial) ?_
  rotate_left
  · intro w hSw; obtain ⟨y0, y1, y2, y3, y4, y5, y6, y7, y8, y9, y10⟩ := hSw.mat; go_simp; (try with_reducible rfl)
  simp only [Act.put, List.setIfInBounds_toArray, List.set_cons_zero, List.set_cons_succ]
  refine Hl.takeL (i := 32) (d := 6) (v := ?_) rfl (by kernel_rfl) (by kernel_rfl) (by kernel_rfl) (fun _ _ _ h => h) (by rfl) ?_ (by first | assumption | trivial) ?_
  rotate_left
  · intro w hSw; obtain ⟨y0, y1, y2, y3, y4, y5, y6, y7, y8, y9, y10⟩ := hSw.mat; go_simp; (try with_reducible rfl)
  simp only [Act.put, List.setIfInBounds_toArray, List.set_cons_zero, List.set_cons_succ]
  refine wpAnyH_done (by kernel_rfl) ?_ _
  clear hHeld
  go_wp2
  go_ret
  exact ⟨rfl, HX.out.below⟩
end Go.Proofs.YtlfhneiddfgoaaaDoor.planCycles
