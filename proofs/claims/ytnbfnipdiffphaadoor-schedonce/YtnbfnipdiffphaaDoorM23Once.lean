/- SchedOnce: of every matrix of few entries that passes (others are let by), cycle and leap: come to unit by unit, or in leaps, each trigger of a cycle is told once, in order; no condition. -/
import Derived.Test.YtnbfnipdiffphaaDoorB23
import Derived.Test.YtnbfnipdiffphaaDoorW23
import Derived.Test.YtnbfnipdiffphaaDoorBj
import Derived.Test.YtnbfnipdiffphaaDoorYh
import Derived.Test.YtnbfnipdiffphaaDoorW21b
import Derived.Deep.CutBlock
import Derived.ProofKit
import Derived.OpenShut
namespace Go.Proofs.YtnbfnipdiffphaaDoor.schedOnce
open Go.ChangeShapes Go.WideShapes Go.ChangeAt Go.RowKit
set_option linter.unusedVariables false
variable {Q : World → Prop} {At : Oq.Rs → Ob.A Q23.St}
set_option maxRecDepth 100000 in
set_option maxHeartbeats 40000000 in
theorem walkA (hQ : ∀ w w', Q w → Below w.heap.size w w' → Q w') (S : SchedSpec Q At) (m : Mx.M) (a : Ma) (ck lp : Nat) {W0 : World} (hm : MIn W0 m a) (hwf : Mx.Wf m) (h1 : ck < 256) (h2 : lp < 256) (W : World) (hw0 : W = W0) (hW : Q W) :
    Calls Tryd.prog 4 #[mV m a, .int .u8 (ck : Int), .int .u8 (lp : Int)] W fun e w' => e = .returned (.bool true) ∧ Below W.heap.size W w' := by
  subst hw0
  have HQ : Hid (∀ w, Below W.heap.size W w → Q w) := fun w hb => hQ W w hW hb
  have HK : Hid (∀ w, Below W.heap.size W w → Calls Tryd.prog 7 #[] w fun e w' => e = .returned (.bool true) ∧ Below w.heap.size w w') := fun w hb => known23_any hQ S w (HQ.out _ hb)
  have HWf : Hid (Mx.Wf m) := hwf
  have HM : Hid (MIn W m a) := hm
  have HI : Hid (∀ R, Ob.Is (At R)) := S.is
  have HS : Hid (SchedSpec Q At) := S
  have HX : Hid (Bx W (W.alloc (.cells (mCs m a) 27)) W.heap.size m a) := Bx.mk' hm
  clear hm hwf hQ hW S
  show Calls _ _ #[.agg (mCs m a), _, _] _ _
  go_enter Tryd.func4, Tryd.ntmps4
  go_upto_region 1 with fail
  generalize W.alloc (.cells (mCs m a) 27) = v at HX ⊢
  go_wp2_with fail
  refine (HK.out _ HX.out.below).mono ?_
  rintro e w1 ⟨rfl, hb⟩
  replace HX : Hid (Bx W w1 W.heap.size m a) := HX.out.on hb
  clear hb HK
  obtain ⟨y0, y1, y2, y3, y4, y5, y6, y7, y8, y9, y10⟩ := HX.out.row.mat
  go_wp2_with fail
  refine (rcheck_all w1 m a HX.out.mem HWf.out).mono ?_
  rintro e w2 ⟨rfl, hb⟩
  replace HX : Hid (Bx W w2 W.heap.size m a) := HX.out.on hb
  clear y0 y1 y10 y2 y3 y4 y5 y6 y7 y8 y9 hb
  have HCk : Hid ((Lq.check m).2 = 0 → Lq.Passes m) := Lq.passes_of
  have HCz : Hid ((Lq.check m).2 = (Lq.check m).2) := rfl
  revert HCz
  generalize (Lq.check m).1 = C1
  generalize hC2 : (Lq.check m).2 = C2
  intro _
  have HC2 : Hid ((Lq.check m).2 = C2) := hC2
  clear hC2
  obtain ⟨y0, y1, y2, y3, y4, y5, y6, y7, y8, y9, y10⟩ := HX.out.row.mat
  go_wp2_with fail
  refine (few23_any w2 m a).mono ?_
  rintro e w3 ⟨rfl, hb⟩
  replace HX : Hid (Bx W w3 W.heap.size m a) := HX.out.on hb
  clear y0 y1 y10 y2 y3 y4 y5 y6 y7 y8 y9 hb
  cases hfw : Mx.few m
  · clear HCk HC2
    go_wp2
    go_ret
    exact ⟨rfl, HX.out.below⟩
  have HSm : Hid (Mx.Small m) := Mx.few_small hfw
  clear hfw
  by_cases e0 : C2 = 0
  rotate_left
  · have e1 : (C2 == 0) = false := beq_eq_false_iff_ne.2 e0
    clear HCk HC2
    go_wp2
    go_ret
    exact ⟨rfl, HX.out.below⟩
  subst e0
  have HP : Hid (Lq.Passes m) := HCk.out HC2.out
  clear HCk
  obtain ⟨rf1, rf2, ln4, ln1, cy1, cy8, lev⟩ := Q21.ref_of HP.out.is
  obtain ⟨cy, hcy⟩ : ∃ cy : Nat, m.cycles = (cy : Int) := ⟨m.cycles.toNat, by omega⟩
  obtain ⟨c, hc⟩ : ∃ c, ck % cy = c := ⟨_, rfl⟩
  have ec : (ck : Int).tmod m.cycles = (c : Int) := by rw [Int.tmod_eq_emod_of_nonneg (by omega), hcy, ← hc]; exact (Int.natCast_emod _ _).symm
  have hn2 : ¬ (m.cycles = 0) := by omega
  have hn4 : ¬ (m.cycles = -1) := by omega
  have hc8 : c < 8 := by
    have : c < cy := by rw [← hc]; exact Nat.mod_lt _ (by omega)
    omega
  have ck8 : (ck : Int) ≤ 255 := by omega
  have HWc : Hid ((Lit.int .i64 (c : Int)).wf = true) := WalkArith.wf_i64 (by omega)
  have HEc : Hid (IntKind.i64.wrap (ck : Int) = (ck : Int)) := by show _ = _; rw [IntKind.wrap_i64]; omega
  have HRr : Hid (∀ w, Bx W w W.heap.size m a → RowT 27 w W.heap.size (mCs m a)) := fun w h => h.row
  have HNw : Hid (∀ w, Below W.heap.size W w → Oq.MakesR Tryd.prog At 9 #[.agg (mCs m a), .int .i64 0] W w (Q23.mk m 0)) := fun w hb => HS.out.new W w m a 0 (HQ.out _ hb) hb HM.out HSm.out HWf.out (by decide)
  clear hcy hc rf1 rf2 ln4 ln1 cy1 cy8 lev
  obtain ⟨rx, hrx⟩ : ∃ rx : Nat × Obj, rx = (W.heap.size, .cells (mCs m a) 27) := ⟨_, rfl⟩
  have HRx : Hid (rx = (W.heap.size, .cells (mCs m a) 27)) := hrx
  clear hrx
  have HXr : Hid (∀ w, Bx W w W.heap.size m a → Oq.Rows [rx] w) := fun w h x hx => by
    rw [List.mem_singleton.1 hx, HRx.out]
    exact h.row
  go_upto_region 6 with fail
  go_cut [9, 10] from 31 to 35 (fun v9 v10 wx => ∃ (Ra Rb : Oq.Rs) (p q : Nat) (R : Oq.Rs), v9 = Ob.ptr p ∧ v10 = Ob.ptr q ∧ Hid (Oq.O2 (At Ra) (At Rb) W wx p (Q23.mk m 0) q (Q23.mk m 0) R ∧ (∀ x ∈ Ra, x ∈ R) ∧ (∀ x ∈ Rb, x ∈ R) ∧ rx ∈ R))
  case first =>
    have HXd : Hid (∀ w', Below w3.heap.size w3 w' → Bx W w' W.heap.size m a) := fun w' hb => HX.out.on hb
    refine wp_region_held_drew (S := fun w' => Below w3.heap.size w3 w') (by kernel_rfl) (Below.refl _ _).drew (fun hHeld => ?_)
    refine Hl.takeL (i := 0) (d := 31) (v := ?_) rfl (by kernel_rfl) (by kernel_rfl) (by kernel_rfl) (fun _ _ _ h => h) (by rfl) ?_ (by first | assumption | trivial) ?_
    rotate_left
    · intro w hSw; obtain ⟨z0, z1, z2, z3, z4, z5, z6, z7, z8, z9, z10⟩ := (HXd.out _ hSw).row.mat; go_simp; (try with_reducible rfl)
    simp only [Act.put, List.setIfInBounds_toArray, List.set_cons_zero, List.set_cons_succ]
    refine Hl.takeL (i := 2) (d := 33) (v := ?_) rfl (by kernel_rfl) (by kernel_rfl) (by kernel_rfl) (fun _ _ _ h => h) (by rfl) ?_ (by first | assumption | trivial) ?_
    rotate_left
    · intro w hSw; obtain ⟨z0, z1, z2, z3, z4, z5, z6, z7, z8, z9, z10⟩ := (HXd.out _ hSw).row.mat; go_simp; (try with_reducible rfl)
    simp only [Act.put, List.setIfInBounds_toArray, List.set_cons_zero, List.set_cons_succ]
    refine Hl.consL (i := 1) rfl (by kernel_rfl) (fun K' hK' => ?_)
    · go_simp
      go_at_call 9
      refine (Oq.O1.makeR (W := W) [rx] (HXr.out _ (HXd.out _ hHeld)) (HNw.out _ (HXd.out _ hHeld).below) (HXd.out _ hHeld).below).mono ?_
      rintro e w4 ⟨Ra, p, rfl, hq, hb⟩
      have HO : Hid (Oq.O1 (At Ra) W w4 p (Q23.mk m 0) (Ra ++ [rx])) := hq
      have hS4 : Below w3.heap.size w3 w4 := hHeld.trans (hb.mono hHeld.size)
      clear hq hb hHeld
      go_simp
      refine hK'.out _ _ hS4 (fun hHeld => ?_)
      clear hK' K'
      refine Hl.consL (i := 3) rfl (by kernel_rfl) (fun K' hK' => ?_)
      go_simp
      go_at_call 9
      refine (HO.out.makeR2 (HI.out Ra) (HNw.out _ (HXd.out _ hHeld).below)).mono ?_
      rintro e w5 ⟨Rb, q, rfl, hq, hb⟩
      have HD : Hid (Oq.O2 (At Ra) (At Rb) W w5 p (Q23.mk m 0) q (Q23.mk m 0) (Rb ++ (Ra ++ [rx])) ∧ (∀ x ∈ Ra, x ∈ Rb ++ (Ra ++ [rx])) ∧ (∀ x ∈ Rb, x ∈ Rb ++ (Ra ++ [rx])) ∧ rx ∈ Rb ++ (Ra ++ [rx])) := ⟨hq, fun x hx => List.mem_append_right _ (List.mem_append_left _ hx), fun x hx => List.mem_append_left _ hx, List.mem_append_right _ (List.mem_append_right _ (List.mem_singleton.2 rfl))⟩
      have hS5 : Below w3.heap.size w3 w5 := hHeld.trans (hb.mono hHeld.size)
      clear hq hb HO hHeld
      go_simp
      refine hK'.out _ _ hS5 (fun hHeld => ?_)
      clear hK' K'
      refine Hl.takeL (i := 4) (d := 9) (v := ?_) rfl (by kernel_rfl) (by kernel_rfl) (by kernel_rfl) (fun _ _ _ h => h) (by rfl) ?_ (by first | assumption | trivial) ?_
      rotate_left
      · intro w hSw; skip; go_simp; (try with_reducible rfl)
      simp only [Act.put, List.setIfInBounds_toArray, List.set_cons_zero, List.set_cons_succ]
      refine Hl.takeL (i := 5) (d := 10) (v := ?_) rfl (by kernel_rfl) (by kernel_rfl) (by kernel_rfl) (fun _ _ _ h => h) (by rfl) ?_ (by first | assumption | trivial) ?_
      rotate_left
      · intro w hSw; skip; go_simp; (try with_reducible rfl)
      simp only [Act.put, List.setIfInBounds_toArray, List.set_cons_zero, List.set_cons_succ]
      refine wpAnyH_done (by kernel_rfl) ?_ _
      go_wp2_with fail
      go_meet
      case rel => exact ⟨Ra, Rb, p, q, _, rfl, rfl, HD⟩
  case rest =>
    clear HX HXr HNw
    obtain ⟨Ra, Rb, p, q, R, rfl, rfl, HD⟩ := hcut
    have HRa : Hid (∀ K, ∀ x ∈ Ra, x ∈ K ++ R) := fun K x hx => List.mem_append_right _ (HD.out.2.1 x hx)
    have HRb : Hid (∀ K, ∀ x ∈ Rb, x ∈ K ++ R) := fun K x hx => List.mem_append_right _ (HD.out.2.2.1 x hx)
    have HO : Hid (Oq.O2 (At Ra) (At Rb) W wc p (Q23.mk m 0) q (Q23.mk m 0) ([] ++ R)) := HD.out.1
    have HXo : Hid (∀ w s t K, Oq.O2 (At Ra) (At Rb) W w p s q t (K ++ R) → Bx W w W.heap.size m a) := fun w s t K h => ⟨by have := h.rows rx (List.mem_append_right _ HD.out.2.2.2); rw [HRx.out] at this; exact this, HM.out.on h.bel, h.bel⟩
    clear HD
    have HP0 : Hid ((Q23.mk m 0).plan = Yq.plan m 0) := rfl
    generalize Q23.mk m 0 = s0 at HO HP0
    obtain ⟨y0, y1, y2, y3, y4, y5, y6, y7, y8, y9, y10⟩ := (HXo.out _ _ _ _ HO.out).row.mat
    go_wp2_with fail
    try rw [HEc.out]
    try rw [ec]
    refine (HO.out.turn (HI.out Rb) (fun F hF => HS.out.begin_ Ra _ p F s0 (c : Int) (HQ.out _ HO.out.bel) (HO.out.rows.more (HRa.out [])) HWc.out hF)).mono ?_
    rintro e w5 ⟨rfl, hq⟩
    replace HO : Hid (Oq.O2 (At Ra) (At Rb) W w5 p (Q23.begin_ s0 (c : Int)) q s0 ([] ++ R)) := hq
    clear hq y0 y1 y2 y3 y4 y5 y6 y7 y8 y9 y10
    obtain ⟨y0, y1, y2, y3, y4, y5, y6, y7, y8, y9, y10⟩ := (HXo.out _ _ _ _ HO.out).row.mat
    go_wp2_with fail
    try rw [HEc.out]
    try rw [ec]
    refine (HO.out.turn2 (HI.out Ra) (fun F hF => HS.out.begin_ Rb _ q F s0 (c : Int) (HQ.out _ HO.out.bel) (HO.out.rows.more (HRb.out [])) HWc.out hF)).mono ?_
    rintro e w6 ⟨rfl, hq⟩
    replace HO : Hid (Oq.O2 (At Ra) (At Rb) W w6 p (Q23.begin_ s0 (c : Int)) q (Q23.begin_ s0 (c : Int)) ([] ++ R)) := hq
    have HCp : Hid (Q23.Cm (Q23.begin_ s0 (c : Int)) (Yq.plan m 0) (c : Int) 0) := Q23.Cm.begin_ HP0.out _
    clear hq y0 y1 y2 y3 y4 y5 y6 y7 y8 y9 y10 HP0
    generalize Q23.begin_ s0 (c : Int) = s1 at HO HCp
    obtain ⟨y0, y1, y2, y3, y4, y5, y6, y7, y8, y9, y10⟩ := (HXo.out _ _ _ _ HO.out).row.mat
    go_wp2_with fail
    refine (rwatch_any w6 m a (HXo.out _ _ _ _ HO.out).mem HSm.out HWf.out).mono ?_
    rintro e w7 ⟨rfl, hb⟩
    replace HO : Hid (Oq.O2 (At Ra) (At Rb) W w7 p s1 q s1 ([] ++ R)) := HO.out.on (HI.out Ra) (HI.out Rb) hb
    clear hb y0 y1 y2 y3 y4 y5 y6 y7 y8 y9 y10
    obtain ⟨tp1, tp2⟩ := Yq.watch_rng HP.out.is
    have HL1 : Hid (1 ≤ (Yq.due (Yq.plan m 0) (c : Int) 0 (Yq.watch m)).length) := Yq.due_tail23 HP.out HC2.out 0 (by omega) (by omega)
    have HSrt : Hid (Yq.Srt (Yq.plan m 0)) := Yq.srt_plan m 0
    have HLe : Hid ((Yq.plan m 0).length ≤ 1000) := Yq.plan_len m 0 HSm.out
    generalize Yq.watch m = tp at tp1 tp2 HL1 ⊢
    generalize Yq.plan m 0 = pl at HL1 HSrt HLe HCp
    have HWt : Hid ((Lit.int .i64 tp).wf = true) := WalkArith.wf_i64 (by omega)
    go_wp2_with fail
    refine (HO.out.turnL (HI.out Rb) (fun F hF => HS.out.now Ra _ p F s1 tp (HQ.out _ HO.out.bel) (HO.out.rows.more (HRa.out [])) HWt.out hF)).mono ?_
    rintro e w8 ⟨a12, c12, K1, rfl, hl, _, hq⟩
    rw [HCp.out.told (by omega)] at hl ⊢
    have HCt : Hid (Q23.Cm (Q23.now s1 tp) pl (c : Int) tp) := HCp.out.now (by omega)
    generalize Q23.now s1 tp = s2 at hq HCt
    have HLa : Hid (∀ K, Oq.Lst (K ++ (K1 ++ R)) a12 c12 (Yq.due pl (c : Int) 0 tp).length ((Yq.due pl (c : Int) 0 tp).flatMap tC)) := fun K => hl.more (fun x hx => List.mem_append_right _ (List.mem_append_left _ hx))
    have HRa1 : Hid (∀ K, ∀ x ∈ Ra, x ∈ K ++ (K1 ++ R)) := fun K x hx => List.mem_append_right _ (HRa.out K1 x hx)
    have HRb1 : Hid (∀ K, ∀ x ∈ Rb, x ∈ K ++ (K1 ++ R)) := fun K x hx => List.mem_append_right _ (HRb.out K1 x hx)
    replace HO : Hid (Oq.O2 (At Ra) (At Rb) W w8 p s2 q s1 ([] ++ (K1 ++ R))) := hq
    clear hl hq HXo HRa HRb
    generalize K1 ++ R = R1 at HLa HRa1 HRb1 HO
    have hL1 : (Yq.due pl (c : Int) 0 tp).length ≤ 1000 := Nat.le_trans (List.length_filter_le _ _) HLe.out
    generalize hLe : (Yq.due pl (c : Int) 0 tp).length = LL at hL1 HLa HL1 ⊢
    have HLL : Hid ((Yq.due pl (c : Int) 0 tp).length = LL) := hLe
    clear hLe
    obtain ⟨lm, hlm⟩ : ∃ lm, lp % 50 = lm := ⟨_, rfl⟩
    have elm : (lp : Int).tmod 50 = (lm : Int) := by rw [Int.tmod_eq_emod_of_nonneg (by omega), ← hlm]; omega
    have hlm50 : (lm : Int) < 50 := by omega
    clear hlm ec hn2 hn4 ck8
    go_wp2_with fail
    go_loopw [13, 14] (fun v13 v14 wr => ∃ (A k : Nat) (X : Int) (u : Q23.St) (K : Oq.Rs), v13 = .int .i64 (k : Int) ∧ v14 = .int .i64 (A : Int) ∧ (A : Int) ≤ tp + 49 ∧ 0 ≤ X ∧ X ≤ (A : Int) ∧ X ≤ tp ∧ k = (Yq.due pl (c : Int) 0 X).length ∧ Hid (Q23.Cm u pl (c : Int) X) ∧ Hid (Oq.O2 (At Ra) (At Rb) W wr p s2 q u (K ++ R1))) (fun _ v14 _ => (tp + 100).toNat - (intOf v14).toNat)
    case atStart => exact ⟨0, 0, 0, s1, [], by simp, rfl, by omega, by omega, by omega, by omega, by rw [Yq.due_self]; rfl, HCp, HO⟩
    case round =>
      clear HO HCp
      obtain ⟨A, k, X, u, K, rfl, rfl, hA, hX0, hXA, hXt, hk, HC, HO⟩ := hrel
      have hAi : (A : Int) ≤ 40000 := by omega
      obtain ⟨Y, hY⟩ : ∃ Y, min (A : Int) tp = Y := ⟨_, rfl⟩
      have hXY : X ≤ Y := by omega
      have hYt : Y ≤ tp := by omega
      have hYA : Y ≤ (A : Int) := by omega
      have HYe : Hid (tp ≤ (A : Int) → Y = tp) := fun h => by omega
      have HWy : Hid ((Lit.int .i64 Y).wf = true) := WalkArith.wf_i64 (by omega)
      have HY0 : Hid (0 ≤ Y) := by show _ ≤ _; omega
      have HB3 : Hid (X ≤ Y ∧ Y ≤ tp ∧ Y ≤ (A : Int) ∧ 0 ≤ X) := ⟨hXY, hYt, hYA, hX0⟩
      clear hXA hXt hX0 hXY hYt hYA
      go_wp2_with fail
      refine (HO.out.turnL2 (HI.out Ra) (fun F hF => HS.out.now Rb _ q F u Y (HQ.out _ HO.out.bel) (HO.out.rows.more (HRb1.out K)) HWy.out hF)).mono ?_
      rintro e w9 ⟨a15, c15, K2, rfl, hl, _, hq⟩
      rw [HC.out.told HB3.out.1] at hl ⊢
      have HC2 : Hid (Q23.Cm (Q23.now u Y) pl (c : Int) Y) := HC.out.now HB3.out.1
      generalize Q23.now u Y = u2 at hq HC2
      rw [← List.append_assoc] at hq
      have H15 : Hid (Oq.Lst (K2 ++ K ++ R1) a15 c15 (Yq.due pl (c : Int) X Y).length ((Yq.due pl (c : Int) X Y).flatMap tC)) := hl.more (fun x hx => List.mem_append_left _ (List.mem_append_left _ hx))
      have HV : Hid (Oq.O2 (At Ra) (At Rb) W w9 p s2 q u2 (K2 ++ K ++ R1)) := hq
      have HAp : Hid (Yq.due pl (c : Int) 0 X ++ (Yq.due pl (c : Int) X Y ++ Yq.due pl (c : Int) Y tp) = Yq.due pl (c : Int) 0 tp) := by
        show _ = _
        rw [Yq.due_append HSrt.out _ HB3.out.1 HB3.out.2.1, Yq.due_append HSrt.out _ HB3.out.2.2.2 (by have := HB3.out; omega)]
      have HKd : Hid (∀ j, k + j < LL ∨ ¬ j < (Yq.due pl (c : Int) X Y).length) := fun j => by
        have h := congrArg List.length HAp.out
        rw [List.length_append, List.length_append, HLL.out, ← hk] at h
        omega
      have HKy : Hid (k + (Yq.due pl (c : Int) X Y).length = (Yq.due pl (c : Int) 0 Y).length) := by
        show _ = _
        rw [← Yq.due_append HSrt.out _ HB3.out.2.2.2 HB3.out.1, List.length_append, hk]
      have HEq : Hid (∀ (j : Nat) t, (Yq.due pl (c : Int) X Y)[j]? = some t → (Yq.due pl (c : Int) 0 tp)[k + j]? = some t) := fun j t ht => by
        have hj := (List.getElem?_eq_some_iff.1 ht).1
        rw [← HAp.out, List.getElem?_append_right (by omega), ← hk, Nat.add_sub_cancel_left, List.getElem?_append_left hj]
        exact ht
      have hD1 : (Yq.due pl (c : Int) X Y).length ≤ 1000 := Nat.le_trans (List.length_filter_le _ _) HLe.out
      have hk1 : k ≤ 1000 := by rw [hk]; exact Nat.le_trans (List.length_filter_le _ _) HLe.out
      clear hl hq HC HO HAp hk hY
      generalize K2 ++ K = K4 at H15 HV
      generalize Yq.due pl (c : Int) X Y = D at H15 HKd HKy HEq hD1 ⊢
      go_wp2_with fail
      go_loopw [13, 16] (fun v13 v16 wr => ∃ (j kj : Nat), j ≤ D.length ∧ kj = k + j ∧ v16 = .int .i64 (j : Int) ∧ v13 = .int .i64 (kj : Int) ∧ Hid (Oq.O2 (At Ra) (At Rb) W wr p s2 q u2 (K4 ++ R1))) (fun _ v16 _ => D.length - (intOf v16).toNat)
      case atStart => exact ⟨0, k, Nat.zero_le _, rfl, rfl, rfl, HV⟩
      case round =>
        clear HV
        obtain ⟨j, kj, hj, hkj, rfl, rfl, HV⟩ := hrel
        by_cases hjl : j < D.length
        · obtain ⟨t, ht⟩ : ∃ t, D[j]? = some t := ⟨_, List.getElem?_eq_getElem hjl⟩
          have hkl : k + j < LL := (HKd.out j).elim (fun h => h) (fun h => absurd hjl h)
          have ht2 := HEq.out j t ht
          obtain ⟨g, o1, rfl, hcx⟩ := LI.trig (H15.out.li HV.out.rows) ht
          obtain ⟨g', o2, hg, hcy⟩ := LI.trig (l := Yq.due pl (c : Int) 0 tp) (by rw [HLL.out]; exact (HLa.out K4).li HV.out.rows) ht2
          subst hg
          rw [← hkj] at hkl hcy
          have hki : (kj : Int) < (LL : Int) := by omega
          have hji : (j : Int) < (D.length : Int) := by omega
          have HC : Hid (∀ w', Below wr.heap.size wr w' → (w'.cell? ⟨g, o1 + j * 6, none⟩ = some (.int .i64 t.kind) ∧ w'.cell? ⟨g, o1 + j * 6 + 1, none⟩ = some (.int .i64 t.at_) ∧ w'.cell? ⟨g, o1 + j * 6 + 2, none⟩ = some (.int .i64 t.cycle) ∧ w'.cell? ⟨g, o1 + j * 6 + 3, none⟩ = some (.int .i64 t.rep) ∧ w'.cell? ⟨g, o1 + j * 6 + 4, none⟩ = some (.int .i64 t.msg) ∧ w'.cell? ⟨g, o1 + j * 6 + 5, none⟩ = some (.int .i64 t.til)) ∧ (w'.cell? ⟨g', o2 + kj * 6, none⟩ = some (.int .i64 t.kind) ∧ w'.cell? ⟨g', o2 + kj * 6 + 1, none⟩ = some (.int .i64 t.at_) ∧ w'.cell? ⟨g', o2 + kj * 6 + 2, none⟩ = some (.int .i64 t.cycle) ∧ w'.cell? ⟨g', o2 + kj * 6 + 3, none⟩ = some (.int .i64 t.rep) ∧ w'.cell? ⟨g', o2 + kj * 6 + 4, none⟩ = some (.int .i64 t.msg) ∧ w'.cell? ⟨g', o2 + kj * 6 + 5, none⟩ = some (.int .i64 t.til))) := fun w' hb => ⟨hcx w' hb, hcy w' hb⟩
          have HJl : Hid (j + 1 ≤ D.length) := hjl
          clear hcx hcy ht ht2 hjl
          obtain ⟨p0, p1, p2, p3, p4, p5⟩ := t
          dsimp only at HC
          have kb1 : (kj : Int) ≤ 2000 := by omega
          have HKj : Hid (kj = k + j) := hkj
          clear hkj
          go_wp2_with fail
          have hdec : decide (LL ≤ kj) = false := decide_eq_false (by omega)
          refine wp_region_held_drew (S := fun w' => Below wr.heap.size wr w') (by kernel_rfl) (Below.refl _ _).drew (fun hHeld => ?_)
          refine Hl.takeL (i := 0) (d := 71) (v := ?_) rfl (by kernel_rfl) (by kernel_rfl) (by kernel_rfl) (fun _ _ _ h => h) (by rfl) ?_ (by first | assumption | trivial) ?_
          rotate_left
          · intro w hSw; skip; go_simp; (try with_reducible rfl)
          simp only [Act.put, List.setIfInBounds_toArray, List.set_cons_zero, List.set_cons_succ]
          refine Hl.takeL (i := 1) (d := 72) (v := ?_) rfl (by kernel_rfl) (by kernel_rfl) (by kernel_rfl) (fun _ _ _ h => h) (by rfl) ?_ (by first | assumption | trivial) ?_
          rotate_left
          · intro w hSw; skip; go_simp; (try with_reducible rfl)
          simp only [Act.put, List.setIfInBounds_toArray, List.set_cons_zero, List.set_cons_succ]
          refine Hl.takeL (i := 2) (d := 73) (v := ?_) rfl (by kernel_rfl) (by kernel_rfl) (by kernel_rfl) (fun _ _ _ h => h) (by rfl) ?_ (by first | assumption | trivial) ?_
          rotate_left
          · intro w hSw; skip; go_simp; (try with_reducible rfl)
          simp only [Act.put, List.setIfInBounds_toArray, List.set_cons_zero, List.set_cons_succ]
          refine Hl.takeL (i := 3) (d := 74) (v := ?_) rfl (by kernel_rfl) (by kernel_rfl) (by kernel_rfl) (fun _ _ _ h => h) (by rfl) ?_ (by first | assumption | trivial) ?_
          rotate_left
          · intro w hSw; skip; go_simp; (try with_reducible rfl)
          simp only [Act.put, List.setIfInBounds_toArray, List.set_cons_zero, List.set_cons_succ]
          try rw [hdec]
          refine Hl.takeL (i := 4) (d := 75) (v := ?_) rfl (by kernel_rfl) (by kernel_rfl) (by kernel_rfl) (fun _ _ _ h => h) (by rfl) ?_ (by first | assumption | trivial) ?_
          rotate_left
          · intro w hSw; skip; go_simp; (try with_reducible rfl)
          simp only [Act.put, List.setIfInBounds_toArray, List.set_cons_zero, List.set_cons_succ]
          refine Hl.takeL (i := 5) (d := 76) (v := ?_) rfl (by kernel_rfl) (by kernel_rfl) (by kernel_rfl) (fun _ _ _ h => h) (by rfl) ?_ (by first | assumption | trivial) ?_
          rotate_left
          · intro w hSw; skip; go_simp; (try with_reducible rfl)
          simp only [Act.put, List.setIfInBounds_toArray, List.set_cons_zero, List.set_cons_succ]
          refine Hl.takeL (i := 6) (d := 77) (v := ?_) rfl (by kernel_rfl) (by kernel_rfl) (by kernel_rfl) (fun _ _ _ h => h) (by rfl) ?_ (by first | assumption | trivial) ?_
          rotate_left
          · intro w hSw; skip; go_simp; (try with_reducible rfl)
          simp only [Act.put, List.setIfInBounds_toArray, List.set_cons_zero, List.set_cons_succ]
          refine Hl.takeL (i := 7) (d := 78) (v := ?_) rfl (by kernel_rfl) (by kernel_rfl) (by kernel_rfl) (fun _ _ _ h => h) (by rfl) ?_ (by first | assumption | trivial) ?_
          rotate_left
          · intro w hSw; skip; go_simp; (try with_reducible rfl)
          simp only [Act.put, List.setIfInBounds_toArray, List.set_cons_zero, List.set_cons_succ]
          refine Hl.takeL (i := 8) (d := 79) (v := ?_) rfl (by kernel_rfl) (by kernel_rfl) (by kernel_rfl) (fun _ _ _ h => h) (by rfl) ?_ (by first | assumption | trivial) ?_
          rotate_left
          · intro w hSw; obtain ⟨⟨z0, z1, z2, z3, z4, z5⟩, x0, x1, x2, x3, x4, x5⟩ := HC.out _ hSw; go_simp; (try with_reducible rfl)
          simp only [Act.put, List.setIfInBounds_toArray, List.set_cons_zero, List.set_cons_succ]
          refine Hl.takeL (i := 9) (d := 80) (v := ?_) rfl (by kernel_rfl) (by kernel_rfl) (by kernel_rfl) (fun _ _ _ h => h) (by rfl) ?_ (by first | assumption | trivial) ?_
          rotate_left
          · intro w hSw; skip; go_simp; (try with_reducible rfl)
          simp only [Act.put, List.setIfInBounds_toArray, List.set_cons_zero, List.set_cons_succ]
          refine Hl.takeL (i := 10) (d := 81) (v := ?_) rfl (by kernel_rfl) (by kernel_rfl) (by kernel_rfl) (fun _ _ _ h => h) (by rfl) ?_ (by first | assumption | trivial) ?_
          rotate_left
          · intro w hSw; skip; go_simp; (try with_reducible rfl)
          simp only [Act.put, List.setIfInBounds_toArray, List.set_cons_zero, List.set_cons_succ]
          refine Hl.takeL (i := 11) (d := 82) (v := ?_) rfl (by kernel_rfl) (by kernel_rfl) (by kernel_rfl) (fun _ _ _ h => h) (by rfl) ?_ (by first | assumption | trivial) ?_
          rotate_left
          · intro w hSw; skip; go_simp; (try with_reducible rfl)
          simp only [Act.put, List.setIfInBounds_toArray, List.set_cons_zero, List.set_cons_succ]
          refine Hl.takeL (i := 12) (d := 83) (v := ?_) rfl (by kernel_rfl) (by kernel_rfl) (by kernel_rfl) (fun _ _ _ h => h) (by rfl) ?_ (by first | assumption | trivial) ?_
          rotate_left
          · intro w hSw; obtain ⟨⟨z0, z1, z2, z3, z4, z5⟩, x0, x1, x2, x3, x4, x5⟩ := HC.out _ hSw; go_simp; (try with_reducible rfl)
          simp only [Act.put, List.setIfInBounds_toArray, List.set_cons_zero, List.set_cons_succ]
          refine Hl.takeL (i := 13) (d := 84) (v := ?_) rfl (by kernel_rfl) (by kernel_rfl) (by kernel_rfl) (fun _ _ _ h => h) (by rfl) ?_ (by first | assumption | trivial) ?_
          rotate_left
          · intro w hSw; skip; go_simp; (try with_reducible rfl)
          simp only [Act.put, List.setIfInBounds_toArray, List.set_cons_zero, List.set_cons_succ]
          refine Hl.takeL (i := 14) (d := 85) (v := ?_) rfl (by kernel_rfl) (by kernel_rfl) (by kernel_rfl) (fun _ _ _ h => h) (by rfl) ?_ (by first | assumption | trivial) ?_
          rotate_left
          · intro w hSw; skip; go_simp; (try with_reducible rfl)
          simp only [Act.put, List.setIfInBounds_toArray, List.set_cons_zero, List.set_cons_succ]
          refine wpAnyH_done (by kernel_rfl) ?_ _
          have HV2 : Hid (Oq.O2 (At Ra) (At Rb) W wr.drew p s2 q u2 (K4 ++ R1)) := HV.out.on (HI.out Ra) (HI.out Rb) hHeld
          clear HV HC hdec hHeld
          go_wp2_with fail
          go_roundw
          case rel => exact ⟨j + 1, kj + 1, HJl.out, by have := HKj.out; omega, rfl, rfl, HV2⟩
          case measure => simp only [intOf]; omega
        · obtain rfl : j = D.length := by omega
          have hnl : ¬ ((D.length : Int) < (D.length : Int)) := by omega
          have HKj : Hid (kj = (Yq.due pl (c : Int) 0 Y).length) := by
            show _ = _
            rw [hkj]
            exact HKy.out
          clear hkj
          by_cases hge : tp ≤ (A : Int)
          · have hkL : kj = LL := by rw [HKj.out, HYe.out hge, HLL.out]
            have HL1' : (1 : Int) ≤ (LL : Int) := by have := HL1.out; omega
            subst hkL
            clear HKj HKd HKy HEq H15
            go_wp2_with fail
            refine (HV.out.turnL (HI.out Rb) (fun F hF => HS.out.now Ra _ p F s2 tp (HQ.out _ HV.out.bel) (HV.out.rows.more (HRa1.out K4)) HWt.out hF)).mono ?_
            rintro e w11 ⟨a6, c6, K6, rfl, _, _, hq⟩
            rw [HCt.out.told (Int.le_refl _), Yq.due_self]
            simp only [List.length_nil]
            have HB : Hid (Below W.heap.size W w11) := hq.bel
            clear hq HV
            go_wp2_with fail
            go_ret
            exact ⟨by simp_all, HB.out⟩
          · have hlt : ¬ (tp ≤ (A : Int)) := hge
            have HB4 : Hid (0 ≤ Y ∧ Y ≤ (A : Int) ∧ Y ≤ tp) := ⟨HY0.out, HB3.out.2.2.1, HB3.out.2.1⟩
            clear HKd HKy HEq H15 hge
            go_wp2_with fail
            go_roundw
            case rel => exact ⟨A + lm + 1, kj, Y, u2, K4, rfl, by simp, by omega, HB4.out.1, by have := HB4.out; omega, HB4.out.2.2, HKj.out, HC2, HV⟩
            case measure => simp only [intOf]; omega
end Go.Proofs.YtnbfnipdiffphaaDoor.schedOnce
