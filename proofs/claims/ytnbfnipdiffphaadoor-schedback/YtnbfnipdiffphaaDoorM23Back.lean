/- SchedBack: of every matrix of few entries that passes (others are let by) and two units: a unit ahead of the one that it is at tells nothing, and changes nothing; no condition. -/
import Derived.Test.YtnbfnipdiffphaaDoorB23
import Derived.Test.YtnbfnipdiffphaaDoorW23
import Derived.Test.YtnbfnipdiffphaaDoorBj
import Derived.Test.YtnbfnipdiffphaaDoorYh
import Derived.Test.YtnbfnipdiffphaaDoorW21b
import Derived.Deep.CutBlock
import Derived.ProofKit
import Derived.OpenShut
namespace Go.Proofs.YtnbfnipdiffphaaDoor.schedBack
open Go.ChangeShapes Go.WideShapes Go.ChangeAt Go.RowKit
set_option linter.unusedVariables false
variable {Q : World → Prop} {At : Oq.Rs → Ob.A Q23.St}
set_option maxRecDepth 100000 in
set_option maxHeartbeats 40000000 in
theorem walkA (hQ : ∀ w w', Q w → Below w.heap.size w w' → Q w') (S : SchedSpec Q At) (m : Mx.M) (a : Ma) (ka kb : Nat) {W0 : World} (hm : MIn W0 m a) (hwf : Mx.Wf m) (h1 : ka < 65536) (h2 : kb < 65536) (W : World) (hw0 : W = W0) (hW : Q W) :
    Calls Tryd.prog 6 #[mV m a, .int .u16 (ka : Int), .int .u16 (kb : Int)] W fun e w' => e = .returned (.bool true) ∧ Below W.heap.size W w' := by
  subst hw0
  have HQ : Hid (∀ w, Below W.heap.size W w → Q w) := fun w hb => hQ W w hW hb
  have HK : Hid (∀ w, Below W.heap.size W w → Calls Tryd.prog 7 #[] w fun e w' => e = .returned (.bool true) ∧ Below w.heap.size w w') := fun w hb => known23_any hQ S w (HQ.out _ hb)
  have HWf : Hid (Mx.Wf m) := hwf
  have HM : Hid (MIn W m a) := hm
  have HI : Hid (∀ R, Ob.Is (At R)) := S.is
  have HS : Hid (SchedSpec Q At) := S
  have HX : Hid (Bx W (W.alloc (.cells (mCs m a) 27)) W.heap.size m a) := Bx.mk' hm
  clear hm hwf hQ hW S
  show Calls _ _ #[.agg (mCs m a), _, _] _ _
  go_enter Tryd.func6, Tryd.ntmps6
  go_upto_region 1 with fail
  generalize W.alloc (.cells (mCs m a) 27) = v at HX ⊢
  go_wp2_with fail
  refine (HK.out _ HX.out.below).mono ?_
  rintro e w1 ⟨rfl, hb⟩
  replace HX : Hid (Bx W w1 W.heap.size m a) := HX.out.on hb
  clear hb HK
  obtain ⟨y0, y1, y2, y3, y4, y5, y6, y7, y8, y9, y10⟩ := HX.out.row.mat
  go_wp2_with fail
  refine (rcheck_all w1 m a HX.out.mem HWf.out).mono ?_
  rintro e w2 ⟨rfl, hb⟩
  replace HX : Hid (Bx W w2 W.heap.size m a) := HX.out.on hb
  clear y0 y1 y10 y2 y3 y4 y5 y6 y7 y8 y9 hb
  have HCk : Hid ((Lq.check m).2 = 0 → Lq.Passes m) := Lq.passes_of
  have HCz : Hid ((Lq.check m).2 = (Lq.check m).2) := rfl
  revert HCz
  generalize (Lq.check m).1 = C1
  generalize hC2 : (Lq.check m).2 = C2
  intro _
  have HC2 : Hid ((Lq.check m).2 = C2) := hC2
  clear hC2
  obtain ⟨y0, y1, y2, y3, y4, y5, y6, y7, y8, y9, y10⟩ := HX.out.row.mat
  go_wp2_with fail
  refine (few23_any w2 m a).mono ?_
  rintro e w3 ⟨rfl, hb⟩
  replace HX : Hid (Bx W w3 W.heap.size m a) := HX.out.on hb
  clear y0 y1 y10 y2 y3 y4 y5 y6 y7 y8 y9 hb
  cases hfw : Mx.few m
  · clear HCk HC2
    go_wp2
    go_ret
    exact ⟨rfl, HX.out.below⟩
  have HSm : Hid (Mx.Small m) := Mx.few_small hfw
  clear hfw
  by_cases e0 : C2 = 0
  rotate_left
  · have e1 : (C2 == 0) = false := beq_eq_false_iff_ne.2 e0
    clear HCk HC2
    go_wp2
    go_ret
    exact ⟨rfl, HX.out.below⟩
  subst e0
  have HP : Hid (Lq.Passes m) := HCk.out HC2.out
  clear HCk
  clear HC2
  obtain ⟨mn, hmn⟩ : ∃ mn : Nat, min (ka : Int) (kb : Int) = (mn : Int) := ⟨min ka kb, by omega⟩
  obtain ⟨mx, hmx⟩ : ∃ mx : Nat, max (ka : Int) (kb : Int) = (mx : Int) := ⟨max ka kb, by omega⟩
  have hmn1 : (mn : Int) ≤ 65535 := by omega
  have hmx1 : (mx : Int) ≤ 65535 := by omega
  obtain ⟨x, hx⟩ : ∃ x, mn % 5000 = x := ⟨_, rfl⟩
  obtain ⟨y, hy⟩ : ∃ y, mx % 5000 = y := ⟨_, rfl⟩
  have ex : (mn : Int).tmod 5000 = (x : Int) := by rw [Int.tmod_eq_emod_of_nonneg (by omega)]; omega
  have ey : (mx : Int).tmod 5000 = (y : Int) := by rw [Int.tmod_eq_emod_of_nonneg (by omega)]; omega
  have hx1 : (x : Int) < 5000 := by omega
  have hy1 : (y : Int) < 5000 := by omega
  clear hx hy
  by_cases hxy : (y : Int) < (x : Int)
  · clear HP
    go_wp2_with fail
    try (go_wp2)
    go_ret
    exact ⟨rfl, HX.out.below⟩
  have HWx : Hid ((Lit.int .i64 (x : Int)).wf = true) := WalkArith.wf_i64 (by omega)
  have HWy : Hid ((Lit.int .i64 (y : Int)).wf = true) := WalkArith.wf_i64 (by omega)
  have HPn : Hid ((Q23.mk m 0).plan.length ≤ 1000) := Yq.plan_len m 0 HSm.out
  have HNw : Hid (∀ w, Below W.heap.size W w → Oq.MakesR Tryd.prog At 9 #[.agg (mCs m a), .int .i64 0] W w (Q23.mk m 0)) := fun w hb => HS.out.new W w m a 0 (HQ.out _ hb) hb HM.out HSm.out HWf.out (by decide)
  go_upto_region 9 with fail
  try generalize decide (y < x) = b46
  clear ex ey hmn hmx hmn1 hmx1 hxy
  go_cut [11, 12] from 47 to 51 (fun v11 v12 wx => ∃ (Ra Rb : Oq.Rs) (p q : Nat) (R : Oq.Rs), v11 = Ob.ptr p ∧ v12 = Ob.ptr q ∧ Hid (Oq.O2 (At Ra) (At Rb) W wx p (Q23.mk m 0) q (Q23.mk m 0) R ∧ (∀ x ∈ Ra, x ∈ R) ∧ (∀ x ∈ Rb, x ∈ R)))
  case first =>
    have HXd : Hid (∀ w', Below w3.heap.size w3 w' → Bx W w' W.heap.size m a) := fun w' hb => HX.out.on hb
    refine wp_region_held_drew (S := fun w' => Below w3.heap.size w3 w') (by kernel_rfl) (Below.refl _ _).drew (fun hHeld => ?_)
    refine Hl.takeL (i := 0) (d := 47) (v := ?_) rfl (by kernel_rfl) (by kernel_rfl) (by kernel_rfl) (fun _ _ _ h => h) (by rfl) ?_ (by first | assumption | trivial) ?_
    rotate_left
    · intro w hSw; obtain ⟨z0, z1, z2, z3, z4, z5, z6, z7, z8, z9, z10⟩ := (HXd.out _ hSw).row.mat; go_simp; (try with_reducible rfl)
    simp only [Act.put, List.setIfInBounds_toArray, List.set_cons_zero, List.set_cons_succ]
    refine Hl.takeL (i := 2) (d := 49) (v := ?_) rfl (by kernel_rfl) (by kernel_rfl) (by kernel_rfl) (fun _ _ _ h => h) (by rfl) ?_ (by first | assumption | trivial) ?_
    rotate_left
    · intro w hSw; obtain ⟨z0, z1, z2, z3, z4, z5, z6, z7, z8, z9, z10⟩ := (HXd.out _ hSw).row.mat; go_simp; (try with_reducible rfl)
    simp only [Act.put, List.setIfInBounds_toArray, List.set_cons_zero, List.set_cons_succ]
    refine Hl.consL (i := 1) rfl (by kernel_rfl) (fun K' hK' => ?_)
    go_simp
    go_at_call 9
    refine (Oq.O1.makeR (W := W) [] (fun x hx => by cases hx) (HNw.out _ (HXd.out _ hHeld).below) (HXd.out _ hHeld).below).mono ?_
    rintro e w4 ⟨Ra, p, rfl, hq, hb⟩
    rw [List.append_nil] at hq
    have HO : Hid (Oq.O1 (At Ra) W w4 p (Q23.mk m 0) Ra) := hq
    have hS4 : Below w3.heap.size w3 w4 := hHeld.trans (hb.mono hHeld.size)
    clear hq hb hHeld
    go_simp
    refine hK'.out _ _ hS4 (fun hHeld => ?_)
    clear hK' K'
    refine Hl.consL (i := 3) rfl (by kernel_rfl) (fun K' hK' => ?_)
    go_simp
    go_at_call 9
    refine (HO.out.makeR2 (HI.out Ra) (HNw.out _ (HXd.out _ hHeld).below)).mono ?_
    rintro e w5 ⟨Rb, q, rfl, hq, hb⟩
    have HD : Hid (Oq.O2 (At Ra) (At Rb) W w5 p (Q23.mk m 0) q (Q23.mk m 0) (Rb ++ Ra) ∧ (∀ x ∈ Ra, x ∈ Rb ++ Ra) ∧ (∀ x ∈ Rb, x ∈ Rb ++ Ra)) := ⟨hq, fun x hx => List.mem_append_right _ hx, fun x hx => List.mem_append_left _ hx⟩
    have hS5 : Below w3.heap.size w3 w5 := hHeld.trans (hb.mono hHeld.size)
    clear hq hb HO hHeld
    go_simp
    refine hK'.out _ _ hS5 (fun hHeld => ?_)
    clear hK' K'
    refine Hl.takeL (i := 4) (d := 11) (v := ?_) rfl (by kernel_rfl) (by kernel_rfl) (by kernel_rfl) (fun _ _ _ h => h) (by rfl) ?_ (by first | assumption | trivial) ?_
    rotate_left
    · intro w hSw; skip; go_simp; (try with_reducible rfl)
    simp only [Act.put, List.setIfInBounds_toArray, List.set_cons_zero, List.set_cons_succ]
    refine Hl.takeL (i := 5) (d := 12) (v := ?_) rfl (by kernel_rfl) (by kernel_rfl) (by kernel_rfl) (fun _ _ _ h => h) (by rfl) ?_ (by first | assumption | trivial) ?_
    rotate_left
    · intro w hSw; skip; go_simp; (try with_reducible rfl)
    simp only [Act.put, List.setIfInBounds_toArray, List.set_cons_zero, List.set_cons_succ]
    refine wpAnyH_done (by kernel_rfl) ?_ _
    go_wp2_with fail
    go_meet
    case rel => exact ⟨Ra, Rb, p, q, _, rfl, rfl, HD⟩
  case rest =>
    clear HX HNw HM HWf HSm HP
    obtain ⟨Ra, Rb, p, q, R, rfl, rfl, HD⟩ := hcut
    have HRa : Hid (∀ K, ∀ x ∈ Ra, x ∈ K ++ R) := fun K x hx => List.mem_append_right _ (HD.out.2.1 x hx)
    have HRb : Hid (∀ K, ∀ x ∈ Rb, x ∈ K ++ R) := fun K x hx => List.mem_append_right _ (HD.out.2.2 x hx)
    have HO : Hid (Oq.O2 (At Ra) (At Rb) W wc p (Q23.mk m 0) q (Q23.mk m 0) ([] ++ R)) := HD.out.1
    clear HD
    have HPl : Hid ((Q23.mk m 0).plan.length ≤ 1000) := HPn.out
    generalize Q23.mk m 0 = s0 at HO HPl
    go_wp2_with fail
    refine (HO.out.turn (HI.out Rb) (fun F hF => HS.out.begin_ Ra _ p F s0 0 (HQ.out _ HO.out.bel) (HO.out.rows.more (HRa.out [])) (by decide) hF)).mono ?_
    rintro e w5 ⟨rfl, hq⟩
    replace HO : Hid (Oq.O2 (At Ra) (At Rb) W w5 p (Q23.begin_ s0 0) q s0 ([] ++ R)) := hq
    clear hq
    go_wp2_with fail
    refine (HO.out.turn2 (HI.out Ra) (fun F hF => HS.out.begin_ Rb _ q F s0 0 (HQ.out _ HO.out.bel) (HO.out.rows.more (HRb.out [])) (by decide) hF)).mono ?_
    rintro e w6 ⟨rfl, hq⟩
    replace HO : Hid (Oq.O2 (At Ra) (At Rb) W w6 p (Q23.begin_ s0 0) q (Q23.begin_ s0 0) ([] ++ R)) := hq
    have HPl1 : Hid ((Q23.begin_ s0 0).plan.length ≤ 1000) := HPl.out
    have HA1 : Hid ((Q23.begin_ s0 0).at_ = 0) := rfl
    clear hq HPl
    generalize Q23.begin_ s0 0 = s1 at HO HPl1 HA1
    go_wp2_with fail
    refine (HO.out.turnL (HI.out Rb) (fun F hF => HS.out.now Ra _ p F s1 (y : Int) (HQ.out _ HO.out.bel) (HO.out.rows.more (HRa.out [])) HWy.out hF)).mono ?_
    rintro e w7 ⟨a1, c1, K1, rfl, _, _, hq⟩
    replace HO : Hid (Oq.O2 (At Ra) (At Rb) W w7 p (Q23.now s1 (y : Int)) q s1 ([] ++ R)) := hq.less (fun x hx => List.mem_append_right _ hx)
    clear hq
    go_wp2_with fail
    refine (HO.out.turnL2 (HI.out Ra) (fun F hF => HS.out.now Rb _ q F s1 (y : Int) (HQ.out _ HO.out.bel) (HO.out.rows.more (HRb.out [])) HWy.out hF)).mono ?_
    rintro e w8 ⟨a2, c2, K2, rfl, _, _, hq⟩
    replace HO : Hid (Oq.O2 (At Ra) (At Rb) W w8 p (Q23.now s1 (y : Int)) q (Q23.now s1 (y : Int)) ([] ++ R)) := hq.less (fun x hx => List.mem_append_right _ hx)
    have HA2 : Hid ((Q23.now s1 (y : Int)).at_ = (y : Int)) := by show _ = _; rw [Q23.now_hi (by rw [HA1.out]; omega)]
    have HPl2 : Hid ((Q23.now s1 (y : Int)).plan.length ≤ 1000) := by show _ ≤ _; rw [Q23.now_plan]; exact HPl1.out
    clear hq HPl1 HA1
    generalize Q23.now s1 (y : Int) = s2 at HO HA2 HPl2
    have HT : Hid ((Q23.told s2 9000).length ≤ 1000) := Nat.le_trans (Q23.told_le s2 9000) HPl2.out
    clear HPl2
    by_cases hlt : (x : Int) < (y : Int)
    · go_wp2_with fail
      refine (HO.out.turnL (HI.out Rb) (fun F hF => HS.out.now Ra _ p F s2 (x : Int) (HQ.out _ HO.out.bel) (HO.out.rows.more (HRa.out [])) HWx.out hF)).mono ?_
      rintro e w9 ⟨a3, c3, K3, rfl, _, _, hq⟩
      rw [Q23.told_lo (by rw [HA2.out]; exact hlt)]
      rw [Q23.now_lo (by rw [HA2.out]; exact hlt)] at hq
      simp only [List.length_nil]
      have HO2 : Hid (Oq.O2 (At Ra) (At Rb) W w9 p s2 q s2 ([] ++ R)) := hq.less (fun x hx => List.mem_append_right _ hx)
      clear hq HO HA2
      go_wp2_with fail
      refine (HO2.out.look (HI.out Ra) (HI.out Rb) (fun F hF => HS.out.open_ Ra _ p F s2 (HQ.out _ HO2.out.bel) (HO2.out.rows.more (HRa.out [])) hF)).mono ?_
      rintro e w10 ⟨rfl, hq⟩
      obtain ⟨t, ht⟩ : ∃ t, s2.op.getD Q23.tz = t := ⟨_, rfl⟩
      obtain ⟨b, hb⟩ : ∃ b, s2.op.isSome = b := ⟨_, rfl⟩
      have HOv : Hid (opV s2.op = .tuple #[trV t, .bool b]) := by show _ = _; rw [← ht, ← hb]; rfl
      clear ht hb
      rw [HOv.out]
      obtain ⟨p0, p1, p2, p3, p4, p5⟩ := t
      dsimp only [trV]
      have HO3 : Hid (Oq.O2 (At Ra) (At Rb) W (w10.alloc (.cells #[.int .i64 p0, .int .i64 p1, .int .i64 p2, .int .i64 p3, .int .i64 p4, .int .i64 p5] 36)) p s2 q s2 ((w10.heap.size, .cells #[.int .i64 p0, .int .i64 p1, .int .i64 p2, .int .i64 p3, .int .i64 p4, .int .i64 p5] 36) :: ([] ++ R))) := Oq.O2.al (HI.out Ra) (HI.out Rb) hq _
      clear hq HO2
      go_upto_region 17 with fail
      generalize w10.alloc (.cells #[.int .i64 p0, .int .i64 p1, .int .i64 p2, .int .i64 p3, .int .i64 p4, .int .i64 p5] 36) = w11 at HO3 ⊢
      generalize w10.heap.size = g1 at HO3 ⊢
      go_wp2_with fail
      refine (HO3.out.look2 (HI.out Ra) (HI.out Rb) (fun F hF => HS.out.open_ Rb _ q F s2 (HQ.out _ HO3.out.bel) (HO3.out.rows.more (fun x hx => List.mem_cons_of_mem _ (HRb.out [] x hx))) hF)).mono ?_
      rintro e w12 ⟨rfl, hq⟩
      rw [HOv.out]
      dsimp only [trV]
      have HO4 : Hid (Oq.O2 (At Ra) (At Rb) W (w12.alloc (.cells #[.int .i64 p0, .int .i64 p1, .int .i64 p2, .int .i64 p3, .int .i64 p4, .int .i64 p5] 36)) p s2 q s2 ((w12.heap.size, .cells #[.int .i64 p0, .int .i64 p1, .int .i64 p2, .int .i64 p3, .int .i64 p4, .int .i64 p5] 36) :: (g1, .cells #[.int .i64 p0, .int .i64 p1, .int .i64 p2, .int .i64 p3, .int .i64 p4, .int .i64 p5] 36) :: ([] ++ R))) := Oq.O2.al (HI.out Ra) (HI.out Rb) hq _
      clear hq HO3 HOv
      go_upto_region 18 with fail
      generalize w12.alloc (.cells #[.int .i64 p0, .int .i64 p1, .int .i64 p2, .int .i64 p3, .int .i64 p4, .int .i64 p5] 36) = w13 at HO4 ⊢
      generalize w12.heap.size = g2 at HO4 ⊢
      go_wp2_with fail
      refine (HO4.out.turnL (HI.out Rb) (fun F hF => HS.out.now Ra _ p F s2 9000 (HQ.out _ HO4.out.bel) (HO4.out.rows.more (fun x hx => List.mem_cons_of_mem _ (List.mem_cons_of_mem _ (HRa.out [] x hx)))) (by decide) hF)).mono ?_
      rintro e w14 ⟨a7, c7, K7, rfl, hl7, _, hq⟩
      have HO5 : Hid (Oq.O2 (At Ra) (At Rb) W w14 p (Q23.now s2 9000) q s2 (K7 ++ ((g2, .cells #[.int .i64 p0, .int .i64 p1, .int .i64 p2, .int .i64 p3, .int .i64 p4, .int .i64 p5] 36) :: (g1, .cells #[.int .i64 p0, .int .i64 p1, .int .i64 p2, .int .i64 p3, .int .i64 p4, .int .i64 p5] 36) :: ([] ++ R)))) := hq
      have HL7 : Hid (Oq.Lst K7 a7 c7 (Q23.told s2 9000).length ((Q23.told s2 9000).flatMap tC)) := hl7
      clear hq hl7 HO4
      go_wp2_with fail
      refine (HO5.out.turnL2 (HI.out Ra) (fun F hF => HS.out.now Rb _ q F s2 9000 (HQ.out _ HO5.out.bel) (HO5.out.rows.more (fun x hx => List.mem_append_right _ (List.mem_cons_of_mem _ (List.mem_cons_of_mem _ (HRb.out [] x hx))))) (by decide) hF)).mono ?_
      rintro e w15 ⟨a8, c8, K8, rfl, hl8, _, hq⟩
      have HF : Hid (∀ w', Below w15.heap.size w15 w' → LI w' a7 c7 (Q23.told s2 9000).length ((Q23.told s2 9000).flatMap tC) ∧ LI w' a8 c8 (Q23.told s2 9000).length ((Q23.told s2 9000).flatMap tC) ∧ RowT 36 w' g1 #[.int .i64 p0, .int .i64 p1, .int .i64 p2, .int .i64 p3, .int .i64 p4, .int .i64 p5] ∧ RowT 36 w' g2 #[.int .i64 p0, .int .i64 p1, .int .i64 p2, .int .i64 p3, .int .i64 p4, .int .i64 p5]) := fun w' hb' => by
        have h := (hq.on (HI.out Ra) (HI.out Rb) hb').rows
        exact ⟨HL7.out.li (h.more (fun x hx => List.mem_append_right _ (List.mem_append_left _ hx))), hl8.li (h.more (fun x hx => List.mem_append_left _ hx)), h (g1, .cells #[.int .i64 p0, .int .i64 p1, .int .i64 p2, .int .i64 p3, .int .i64 p4, .int .i64 p5] 36) (by simp), h (g2, .cells #[.int .i64 p0, .int .i64 p1, .int .i64 p2, .int .i64 p3, .int .i64 p4, .int .i64 p5] 36) (by simp)⟩
      have HB : Hid (Below W.heap.size W w15) := hq.bel
      clear hq hl8 HL7 HO5
      generalize Q23.told s2 9000 = L at HF HT ⊢
      have hL1000 : (L.length : Int) ≤ 1000 := by have := HT.out; omega
      go_wp2_with fail
      go_loopw [19] (fun v19 wr => ∃ k : Nat, k ≤ L.length ∧ v19 = .int .i64 (k : Int) ∧ Hid (Below w15.heap.size w15 wr)) (fun v19 _ => L.length - (intOf v19).toNat)
      case atStart => exact ⟨0, Nat.zero_le _, rfl, Below.refl _ _⟩
      case round =>
        obtain ⟨k, hk, rfl, HR⟩ := hrel
        by_cases hkl : k < L.length
        · obtain ⟨t, ht⟩ : ∃ t, L[k]? = some t := ⟨_, List.getElem?_eq_getElem hkl⟩
          obtain ⟨g, o1, rfl, hcx⟩ := LI.trig (HF.out _ HR.out).1 ht
          obtain ⟨g', o2, rfl, hcy⟩ := LI.trig (HF.out _ HR.out).2.1 ht
          have hki : (k : Int) < (L.length : Int) := by omega
          have HKl : Hid (k + 1 ≤ L.length) := hkl
          have HC : Hid (∀ w', Below wr.heap.size wr w' → (w'.cell? ⟨g, o1 + k * 6, none⟩ = some (.int .i64 t.kind) ∧ w'.cell? ⟨g, o1 + k * 6 + 1, none⟩ = some (.int .i64 t.at_) ∧ w'.cell? ⟨g, o1 + k * 6 + 2, none⟩ = some (.int .i64 t.cycle) ∧ w'.cell? ⟨g, o1 + k * 6 + 3, none⟩ = some (.int .i64 t.rep) ∧ w'.cell? ⟨g, o1 + k * 6 + 4, none⟩ = some (.int .i64 t.msg) ∧ w'.cell? ⟨g, o1 + k * 6 + 5, none⟩ = some (.int .i64 t.til)) ∧ (w'.cell? ⟨g', o2 + k * 6, none⟩ = some (.int .i64 t.kind) ∧ w'.cell? ⟨g', o2 + k * 6 + 1, none⟩ = some (.int .i64 t.at_) ∧ w'.cell? ⟨g', o2 + k * 6 + 2, none⟩ = some (.int .i64 t.cycle) ∧ w'.cell? ⟨g', o2 + k * 6 + 3, none⟩ = some (.int .i64 t.rep) ∧ w'.cell? ⟨g', o2 + k * 6 + 4, none⟩ = some (.int .i64 t.msg) ∧ w'.cell? ⟨g', o2 + k * 6 + 5, none⟩ = some (.int .i64 t.til))) := fun w' hb => ⟨hcx w' hb, hcy w' hb⟩
          clear hcx hcy ht hkl HF
          obtain ⟨u0, u1, u2, u3, u4, u5⟩ := t
          dsimp only at HC
          go_wp2_with fail
          refine Lw.wp_region_quiet_below (by kernel_rfl) (by kernel_rfl) ?_
          repeat (first
            | go_big_quiet_skip
            | (go_big_quiet_want; go_big_quiet_op; go_big_quiet_on)
            | (go_big_quiet_want; go_big_quiet_op; apply Exists.intro; refine ⟨fun _ hb' => ?_, ?_⟩; (first
              | exact Lw.val_rfl _
              | (simp [go_sem, (HC.out _ hb').1.1, (HC.out _ hb').1.2.1, (HC.out _ hb').1.2.2.1, (HC.out _ hb').1.2.2.2.1, (HC.out _ hb').1.2.2.2.2.1, (HC.out _ hb').1.2.2.2.2.2]; rfl)
              | (simp [go_sem, (HC.out _ hb').2.1, (HC.out _ hb').2.2.1, (HC.out _ hb').2.2.2.1, (HC.out _ hb').2.2.2.2.1, (HC.out _ hb').2.2.2.2.2.1, (HC.out _ hb').2.2.2.2.2.2]; rfl)); go_big_quiet_on))
          refine wpQuiet_nil ?_
          intro w16 hb
          have HR2 : Hid (Below w15.heap.size w15 w16) := HR.out.trans (hb.mono HR.out.size)
          clear hb HR HC
          go_wp2_with fail
          go_roundw
          case rel => exact ⟨k + 1, HKl.out, rfl, HR2⟩
          case measure => simp only [intOf]; omega
        · obtain rfl : k = L.length := by omega
          have hnl : ¬ ((L.length : Int) < (L.length : Int)) := by omega
          have HB2 : Hid (Below W.heap.size W wr) := HB.out.trans (HR.out.mono HB.out.size)
          have HR1 : Hid (RowT 36 wr g1 #[.int .i64 p0, .int .i64 p1, .int .i64 p2, .int .i64 p3, .int .i64 p4, .int .i64 p5]) := (HF.out _ HR.out).2.2.1
          have HR2 : Hid (RowT 36 wr g2 #[.int .i64 p0, .int .i64 p1, .int .i64 p2, .int .i64 p3, .int .i64 p4, .int .i64 p5]) := (HF.out _ HR.out).2.2.2
          have z0 := HR1.out.c 0 _ rfl
          have r0 := HR2.out.c 0 _ rfl
          have z1 := HR1.out.c 1 _ rfl
          have r1 := HR2.out.c 1 _ rfl
          have z2 := HR1.out.c 2 _ rfl
          have r2 := HR2.out.c 2 _ rfl
          have z3 := HR1.out.c 3 _ rfl
          have r3 := HR2.out.c 3 _ rfl
          have z4 := HR1.out.c 4 _ rfl
          have r4 := HR2.out.c 4 _ rfl
          have z5 := HR1.out.c 5 _ rfl
          have r5 := HR2.out.c 5 _ rfl
          clear HF HR1 HR2 HR
          go_wp2_with fail
          go_ret
          exact ⟨by simp, HB2.out⟩
    · have HO2 : Hid (Oq.O2 (At Ra) (At Rb) W w8 p s2 q s2 ([] ++ R)) := HO.out
      clear HO HA2
      go_wp2_with fail
      refine (HO2.out.look (HI.out Ra) (HI.out Rb) (fun F hF => HS.out.open_ Ra _ p F s2 (HQ.out _ HO2.out.bel) (HO2.out.rows.more (HRa.out [])) hF)).mono ?_
      rintro e w10 ⟨rfl, hq⟩
      obtain ⟨t, ht⟩ : ∃ t, s2.op.getD Q23.tz = t := ⟨_, rfl⟩
      obtain ⟨b, hb⟩ : ∃ b, s2.op.isSome = b := ⟨_, rfl⟩
      have HOv : Hid (opV s2.op = .tuple #[trV t, .bool b]) := by show _ = _; rw [← ht, ← hb]; rfl
      clear ht hb
      rw [HOv.out]
      obtain ⟨p0, p1, p2, p3, p4, p5⟩ := t
      dsimp only [trV]
      have HO3 : Hid (Oq.O2 (At Ra) (At Rb) W (w10.alloc (.cells #[.int .i64 p0, .int .i64 p1, .int .i64 p2, .int .i64 p3, .int .i64 p4, .int .i64 p5] 36)) p s2 q s2 ((w10.heap.size, .cells #[.int .i64 p0, .int .i64 p1, .int .i64 p2, .int .i64 p3, .int .i64 p4, .int .i64 p5] 36) :: ([] ++ R))) := Oq.O2.al (HI.out Ra) (HI.out Rb) hq _
      clear hq HO2
      go_upto_region 17 with fail
      generalize w10.alloc (.cells #[.int .i64 p0, .int .i64 p1, .int .i64 p2, .int .i64 p3, .int .i64 p4, .int .i64 p5] 36) = w11 at HO3 ⊢
      generalize w10.heap.size = g1 at HO3 ⊢
      go_wp2_with fail
      refine (HO3.out.look2 (HI.out Ra) (HI.out Rb) (fun F hF => HS.out.open_ Rb _ q F s2 (HQ.out _ HO3.out.bel) (HO3.out.rows.more (fun x hx => List.mem_cons_of_mem _ (HRb.out [] x hx))) hF)).mono ?_
      rintro e w12 ⟨rfl, hq⟩
      rw [HOv.out]
      dsimp only [trV]
      have HO4 : Hid (Oq.O2 (At Ra) (At Rb) W (w12.alloc (.cells #[.int .i64 p0, .int .i64 p1, .int .i64 p2, .int .i64 p3, .int .i64 p4, .int .i64 p5] 36)) p s2 q s2 ((w12.heap.size, .cells #[.int .i64 p0, .int .i64 p1, .int .i64 p2, .int .i64 p3, .int .i64 p4, .int .i64 p5] 36) :: (g1, .cells #[.int .i64 p0, .int .i64 p1, .int .i64 p2, .int .i64 p3, .int .i64 p4, .int .i64 p5] 36) :: ([] ++ R))) := Oq.O2.al (HI.out Ra) (HI.out Rb) hq _
      clear hq HO3 HOv
      go_upto_region 18 with fail
      generalize w12.alloc (.cells #[.int .i64 p0, .int .i64 p1, .int .i64 p2, .int .i64 p3, .int .i64 p4, .int .i64 p5] 36) = w13 at HO4 ⊢
      generalize w12.heap.size = g2 at HO4 ⊢
      go_wp2_with fail
      refine (HO4.out.turnL (HI.out Rb) (fun F hF => HS.out.now Ra _ p F s2 9000 (HQ.out _ HO4.out.bel) (HO4.out.rows.more (fun x hx => List.mem_cons_of_mem _ (List.mem_cons_of_mem _ (HRa.out [] x hx)))) (by decide) hF)).mono ?_
      rintro e w14 ⟨a7, c7, K7, rfl, hl7, _, hq⟩
      have HO5 : Hid (Oq.O2 (At Ra) (At Rb) W w14 p (Q23.now s2 9000) q s2 (K7 ++ ((g2, .cells #[.int .i64 p0, .int .i64 p1, .int .i64 p2, .int .i64 p3, .int .i64 p4, .int .i64 p5] 36) :: (g1, .cells #[.int .i64 p0, .int .i64 p1, .int .i64 p2, .int .i64 p3, .int .i64 p4, .int .i64 p5] 36) :: ([] ++ R)))) := hq
      have HL7 : Hid (Oq.Lst K7 a7 c7 (Q23.told s2 9000).length ((Q23.told s2 9000).flatMap tC)) := hl7
      clear hq hl7 HO4
      go_wp2_with fail
      refine (HO5.out.turnL2 (HI.out Ra) (fun F hF => HS.out.now Rb _ q F s2 9000 (HQ.out _ HO5.out.bel) (HO5.out.rows.more (fun x hx => List.mem_append_right _ (List.mem_cons_of_mem _ (List.mem_cons_of_mem _ (HRb.out [] x hx))))) (by decide) hF)).mono ?_
      rintro e w15 ⟨a8, c8, K8, rfl, hl8, _, hq⟩
      have HF : Hid (∀ w', Below w15.heap.size w15 w' → LI w' a7 c7 (Q23.told s2 9000).length ((Q23.told s2 9000).flatMap tC) ∧ LI w' a8 c8 (Q23.told s2 9000).length ((Q23.told s2 9000).flatMap tC) ∧ RowT 36 w' g1 #[.int .i64 p0, .int .i64 p1, .int .i64 p2, .int .i64 p3, .int .i64 p4, .int .i64 p5] ∧ RowT 36 w' g2 #[.int .i64 p0, .int .i64 p1, .int .i64 p2, .int .i64 p3, .int .i64 p4, .int .i64 p5]) := fun w' hb' => by
        have h := (hq.on (HI.out Ra) (HI.out Rb) hb').rows
        exact ⟨HL7.out.li (h.more (fun x hx => List.mem_append_right _ (List.mem_append_left _ hx))), hl8.li (h.more (fun x hx => List.mem_append_left _ hx)), h (g1, .cells #[.int .i64 p0, .int .i64 p1, .int .i64 p2, .int .i64 p3, .int .i64 p4, .int .i64 p5] 36) (by simp), h (g2, .cells #[.int .i64 p0, .int .i64 p1, .int .i64 p2, .int .i64 p3, .int .i64 p4, .int .i64 p5] 36) (by simp)⟩
      have HB : Hid (Below W.heap.size W w15) := hq.bel
      clear hq hl8 HL7 HO5
      generalize Q23.told s2 9000 = L at HF HT ⊢
      have hL1000 : (L.length : Int) ≤ 1000 := by have := HT.out; omega
      go_wp2_with fail
      go_loopw [19] (fun v19 wr => ∃ k : Nat, k ≤ L.length ∧ v19 = .int .i64 (k : Int) ∧ Hid (Below w15.heap.size w15 wr)) (fun v19 _ => L.length - (intOf v19).toNat)
      case atStart => exact ⟨0, Nat.zero_le _, rfl, Below.refl _ _⟩
      case round =>
        obtain ⟨k, hk, rfl, HR⟩ := hrel
        by_cases hkl : k < L.length
        · obtain ⟨t, ht⟩ : ∃ t, L[k]? = some t := ⟨_, List.getElem?_eq_getElem hkl⟩
          obtain ⟨g, o1, rfl, hcx⟩ := LI.trig (HF.out _ HR.out).1 ht
          obtain ⟨g', o2, rfl, hcy⟩ := LI.trig (HF.out _ HR.out).2.1 ht
          have hki : (k : Int) < (L.length : Int) := by omega
          have HKl : Hid (k + 1 ≤ L.length) := hkl
          have HC : Hid (∀ w', Below wr.heap.size wr w' → (w'.cell? ⟨g, o1 + k * 6, none⟩ = some (.int .i64 t.kind) ∧ w'.cell? ⟨g, o1 + k * 6 + 1, none⟩ = some (.int .i64 t.at_) ∧ w'.cell? ⟨g, o1 + k * 6 + 2, none⟩ = some (.int .i64 t.cycle) ∧ w'.cell? ⟨g, o1 + k * 6 + 3, none⟩ = some (.int .i64 t.rep) ∧ w'.cell? ⟨g, o1 + k * 6 + 4, none⟩ = some (.int .i64 t.msg) ∧ w'.cell? ⟨g, o1 + k * 6 + 5, none⟩ = some (.int .i64 t.til)) ∧ (w'.cell? ⟨g', o2 + k * 6, none⟩ = some (.int .i64 t.kind) ∧ w'.cell? ⟨g', o2 + k * 6 + 1, none⟩ = some (.int .i64 t.at_) ∧ w'.cell? ⟨g', o2 + k * 6 + 2, none⟩ = some (.int .i64 t.cycle) ∧ w'.cell? ⟨g', o2 + k * 6 + 3, none⟩ = some (.int .i64 t.rep) ∧ w'.cell? ⟨g', o2 + k * 6 + 4, none⟩ = some (.int .i64 t.msg) ∧ w'.cell? ⟨g', o2 + k * 6 + 5, none⟩ = some (.int .i64 t.til))) := fun w' hb => ⟨hcx w' hb, hcy w' hb⟩
          clear hcx hcy ht hkl HF
          obtain ⟨u0, u1, u2, u3, u4, u5⟩ := t
          dsimp only at HC
          go_wp2_with fail
          refine Lw.wp_region_quiet_below (by kernel_rfl) (by kernel_rfl) ?_
          repeat (first
            | go_big_quiet_skip
            | (go_big_quiet_want; go_big_quiet_op; go_big_quiet_on)
            | (go_big_quiet_want; go_big_quiet_op; apply Exists.intro; refine ⟨fun _ hb' => ?_, ?_⟩; (first
              | exact Lw.val_rfl _
              | (simp [go_sem, (HC.out _ hb').1.1, (HC.out _ hb').1.2.1, (HC.out _ hb').1.2.2.1, (HC.out _ hb').1.2.2.2.1, (HC.out _ hb').1.2.2.2.2.1, (HC.out _ hb').1.2.2.2.2.2]; rfl)
              | (simp [go_sem, (HC.out _ hb').2.1, (HC.out _ hb').2.2.1, (HC.out _ hb').2.2.2.1, (HC.out _ hb').2.2.2.2.1, (HC.out _ hb').2.2.2.2.2.1, (HC.out _ hb').2.2.2.2.2.2]; rfl)); go_big_quiet_on))
          refine wpQuiet_nil ?_
          intro w16 hb
          have HR2 : Hid (Below w15.heap.size w15 w16) := HR.out.trans (hb.mono HR.out.size)
          clear hb HR HC
          go_wp2_with fail
          go_roundw
          case rel => exact ⟨k + 1, HKl.out, rfl, HR2⟩
          case measure => simp only [intOf]; omega
        · obtain rfl : k = L.length := by omega
          have hnl : ¬ ((L.length : Int) < (L.length : Int)) := by omega
          have HB2 : Hid (Below W.heap.size W wr) := HB.out.trans (HR.out.mono HB.out.size)
          have HR1 : Hid (RowT 36 wr g1 #[.int .i64 p0, .int .i64 p1, .int .i64 p2, .int .i64 p3, .int .i64 p4, .int .i64 p5]) := (HF.out _ HR.out).2.2.1
          have HR2 : Hid (RowT 36 wr g2 #[.int .i64 p0, .int .i64 p1, .int .i64 p2, .int .i64 p3, .int .i64 p4, .int .i64 p5]) := (HF.out _ HR.out).2.2.2
          have z0 := HR1.out.c 0 _ rfl
          have r0 := HR2.out.c 0 _ rfl
          have z1 := HR1.out.c 1 _ rfl
          have r1 := HR2.out.c 1 _ rfl
          have z2 := HR1.out.c 2 _ rfl
          have r2 := HR2.out.c 2 _ rfl
          have z3 := HR1.out.c 3 _ rfl
          have r3 := HR2.out.c 3 _ rfl
          have z4 := HR1.out.c 4 _ rfl
          have r4 := HR2.out.c 4 _ rfl
          have z5 := HR1.out.c 5 _ rfl
          have r5 := HR2.out.c 5 _ rfl
          clear HF HR1 HR2 HR
          go_wp2_with fail
          go_ret
          exact ⟨by simp, HB2.out⟩
end Go.Proofs.YtnbfnipdiffphaaDoor.schedBack
