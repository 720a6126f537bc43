/- SchedLast: of every matrix of few entries that passes (others are let by), node and unit: of several that are due at once the last one that may send is open; a new cycle opens none; no condition. -/
import Derived.Test.YtnbfnipdiffphaaDoorB23
import Derived.Test.YtnbfnipdiffphaaDoorOt
import Derived.Test.YtnbfnipdiffphaaDoorM23T
import Derived.Test.YtnbfnipdiffphaaDoorW23
import Derived.Test.YtnbfnipdiffphaaDoorBj
import Derived.Test.YtnbfnipdiffphaaDoorYh
import Derived.Test.YtnbfnipdiffphaaDoorW21b
import Derived.Deep.CutBlock
import Derived.ProofKit
import Derived.OpenShut
namespace Go.Proofs.YtnbfnipdiffphaaDoor.schedLast
open Go.ChangeShapes Go.WideShapes Go.ChangeAt Go.RowKit
set_option linter.unusedVariables false
variable {Q : World → Prop} {At : Oq.Rs → Ob.A Q23.St}
set_option maxRecDepth 100000 in
set_option maxHeartbeats 40000000 in
theorem walkA (hQ : ∀ w w', Q w → Below w.heap.size w w' → Q w') (S : SchedSpec Q At) (m : Mx.M) (a : Ma) (wk an : Nat) {W0 : World} (hm : MIn W0 m a) (hwf : Mx.Wf m) (h1 : wk < 256) (h2 : an < 65536) (W : World) (hw0 : W = W0) (hW : Q W) :
    Calls Tryd.prog 5 #[mV m a, .int .u8 (wk : Int), .int .u16 (an : Int)] W fun e w' => e = .returned (.bool true) ∧ Below W.heap.size W w' := by
  subst hw0
  have HQ : Hid (∀ w, Below W.heap.size W w → Q w) := fun w hb => hQ W w hW hb
  have HK : Hid (∀ w, Below W.heap.size W w → Calls Tryd.prog 7 #[] w fun e w' => e = .returned (.bool true) ∧ Below w.heap.size w w') := fun w hb => known23_any hQ S w (HQ.out _ hb)
  have HWf : Hid (Mx.Wf m) := hwf
  have HM : Hid (MIn W m a) := hm
  have HI : Hid (∀ R, Ob.Is (At R)) := S.is
  have HS : Hid (SchedSpec Q At) := S
  have HX : Hid (Bx W (W.alloc (.cells (mCs m a) 27)) W.heap.size m a) := Bx.mk' hm
  clear hm hwf hQ hW S
  show Calls _ _ #[.agg (mCs m a), _, _] _ _
  go_enter Tryd.func5, Tryd.ntmps5
  go_upto_region 1 with fail
  generalize W.alloc (.cells (mCs m a) 27) = v at HX ⊢
  go_wp2_with fail
  refine (HK.out _ HX.out.below).mono ?_
  rintro e w1 ⟨rfl, hb⟩
  replace HX : Hid (Bx W w1 W.heap.size m a) := HX.out.on hb
  clear hb HK
  obtain ⟨y0, y1, y2, y3, y4, y5, y6, y7, y8, y9, y10⟩ := HX.out.row.mat
  go_wp2_with fail
  refine (rcheck_all w1 m a HX.out.mem HWf.out).mono ?_
  rintro e w2 ⟨rfl, hb⟩
  replace HX : Hid (Bx W w2 W.heap.size m a) := HX.out.on hb
  clear y0 y1 y10 y2 y3 y4 y5 y6 y7 y8 y9 hb
  have HCk : Hid ((Lq.check m).2 = 0 → Lq.Passes m) := Lq.passes_of
  have HCz : Hid ((Lq.check m).2 = (Lq.check m).2) := rfl
  revert HCz
  generalize (Lq.check m).1 = C1
  generalize hC2 : (Lq.check m).2 = C2
  intro _
  have HC2 : Hid ((Lq.check m).2 = C2) := hC2
  clear hC2
  obtain ⟨y0, y1, y2, y3, y4, y5, y6, y7, y8, y9, y10⟩ := HX.out.row.mat
  go_wp2_with fail
  refine (few23_any w2 m a).mono ?_
  rintro e w3 ⟨rfl, hb⟩
  replace HX : Hid (Bx W w3 W.heap.size m a) := HX.out.on hb
  clear y0 y1 y10 y2 y3 y4 y5 y6 y7 y8 y9 hb
  cases hfw : Mx.few m
  · clear HCk HC2
    go_wp2
    go_ret
    exact ⟨rfl, HX.out.below⟩
  have HSm : Hid (Mx.Small m) := Mx.few_small hfw
  clear hfw
  by_cases e0 : C2 = 0
  rotate_left
  · have e1 : (C2 == 0) = false := beq_eq_false_iff_ne.2 e0
    clear HCk HC2
    go_wp2
    go_ret
    exact ⟨rfl, HX.out.below⟩
  subst e0
  have HP : Hid (Lq.Passes m) := HCk.out HC2.out
  clear HCk
  clear HC2
  have hnod : 1 ≤ m.nodes ∧ m.nodes ≤ 8 := by
    have h := HP.out.is
    simp only [Mx.is, Mx.lens, Mx.scal, Mx.within, Mx.power, Bool.and_eq_true, decide_eq_true_eq, Bool.or_eq_true, beq_iff_eq] at h
    omega
  obtain ⟨nd, hnd⟩ : ∃ nd : Nat, m.nodes = (nd : Int) := ⟨m.nodes.toNat, by omega⟩
  obtain ⟨wn, hwn⟩ : ∃ wn, wk % nd = wn := ⟨_, rfl⟩
  have ew : (wk : Int).tmod m.nodes = (wn : Int) := by rw [Int.tmod_eq_emod_of_nonneg (by omega), hnd, ← hwn]; exact (Int.natCast_emod _ _).symm
  have hn2 : ¬ (m.nodes = 0) := by omega
  have hn4 : ¬ (m.nodes = -1) := by omega
  have hwn8 : wn < 8 := by
    have : wn < nd := by rw [← hwn]; exact Nat.mod_lt _ (by omega)
    omega
  have wk8 : (wk : Int) ≤ 255 := by omega
  have HEw : Hid (IntKind.i64.wrap (wk : Int) = (wk : Int)) := by show _ = _; rw [IntKind.wrap_i64]; omega
  clear hnod hnd hwn
  have HNw : Hid (∀ w, Below W.heap.size W w → Oq.MakesR Tryd.prog At 9 #[.agg (mCs m a), .int .i64 (wn : Int)] W w (Q23.mk m (wn : Int))) := fun w hb => HS.out.new W w m a (wn : Int) (HQ.out _ hb) hb HM.out HSm.out HWf.out (WalkArith.wf_i64 (by omega))
  have HPn : Hid ((Q23.mk m (wn : Int)).plan.length ≤ 1000) := Yq.plan_len m _ HSm.out
  have HTl : Hid (∀ t ∈ (Q23.mk m (wn : Int)).plan, -10000 ≤ t.til ∧ t.til ≤ 10000) := fun t ht => Yq.til_rng HP.out ht
  go_upto_region 6 with fail
  go_cut [9] from 33 to 40 (fun v9 wx => ∃ (R0 : Oq.Rs) (p : Nat), v9 = Ob.ptr p ∧ Hid (Oq.O1 (At R0) W wx p (Q23.mk m (wn : Int)) R0))
  case first =>
    have HXd : Hid (∀ w', Below w3.heap.size w3 w' → Bx W w' W.heap.size m a) := fun w' hb => HX.out.on hb
    refine wp_region_held_drew (S := fun w' => Below w3.heap.size w3 w') (by kernel_rfl) (Below.refl _ _).drew (fun hHeld => ?_)
    refine Hl.takeL (i := 0) (d := 33) (v := ?_) rfl (by kernel_rfl) (by kernel_rfl) (by kernel_rfl) (fun _ _ _ h => h) (by rfl) ?_ (by first | assumption | trivial) ?_
    rotate_left
    · intro w hSw; obtain ⟨z0, z1, z2, z3, z4, z5, z6, z7, z8, z9, z10⟩ := (HXd.out _ hSw).row.mat; go_simp; (try with_reducible rfl)
    simp only [Act.put, List.setIfInBounds_toArray, List.set_cons_zero, List.set_cons_succ]
    refine Hl.takeL (i := 1) (d := 34) (v := ?_) rfl (by kernel_rfl) (by kernel_rfl) (by kernel_rfl) (fun _ _ _ h => h) (by rfl) ?_ (by first | assumption | trivial) ?_
    rotate_left
    · intro w hSw; skip; go_simp; (try with_reducible rfl)
    simp only [Act.put, List.setIfInBounds_toArray, List.set_cons_zero, List.set_cons_succ]
    refine Hl.takeL (i := 2) (d := 35) (v := ?_) rfl (by kernel_rfl) (by kernel_rfl) (by kernel_rfl) (fun _ _ _ h => h) (by rfl) ?_ (by first | assumption | trivial) ?_
    rotate_left
    · intro w hSw; skip; go_simp; (try with_reducible rfl)
    simp only [Act.put, List.setIfInBounds_toArray, List.set_cons_zero, List.set_cons_succ]
    refine Hl.takeL (i := 3) (d := 36) (v := ?_) rfl (by kernel_rfl) (by kernel_rfl) (by kernel_rfl) (fun _ _ _ h => h) (by rfl) ?_ (by first | assumption | trivial) ?_
    rotate_left
    · intro w hSw; skip; go_simp; (try with_reducible rfl)
    simp only [Act.put, List.setIfInBounds_toArray, List.set_cons_zero, List.set_cons_succ]
    refine Hl.takeL (i := 4) (d := 37) (v := ?_) rfl (by kernel_rfl) (by kernel_rfl) (by kernel_rfl) (fun _ _ _ h => h) (by rfl) ?_ (by first | assumption | trivial) ?_
    rotate_left
    · intro w hSw; obtain ⟨z0, z1, z2, z3, z4, z5, z6, z7, z8, z9, z10⟩ := (HXd.out _ hSw).row.mat; go_simp; (try with_reducible rfl)
    simp only [Act.put, List.setIfInBounds_toArray, List.set_cons_zero, List.set_cons_succ]
    refine Hl.takeL (i := 5) (d := 38) (v := ?_) rfl (by kernel_rfl) (by kernel_rfl) (by kernel_rfl) (fun _ _ _ h => h) (by rfl) ?_ (by first | assumption | trivial) ?_
    rotate_left
    · intro w hSw; skip; go_simp; (try with_reducible rfl)
    simp only [Act.put, List.setIfInBounds_toArray, List.set_cons_zero, List.set_cons_succ]
    try rw [HEw.out]
    try rw [ew]
    refine Hl.consL (i := 6) rfl (by kernel_rfl) (fun K' hK' => ?_)
    go_simp
    go_at_call 9
    refine (Oq.O1.makeR (W := W) [] (fun x hx => by cases hx) (HNw.out _ (HXd.out _ hHeld).below) (HXd.out _ hHeld).below).mono ?_
    rintro e w4 ⟨R0, p, rfl, hq, hb⟩
    rw [List.append_nil] at hq
    have HO : Hid (Oq.O1 (At R0) W w4 p (Q23.mk m (wn : Int)) R0) := hq
    have hS4 : Below w3.heap.size w3 w4 := hHeld.trans (hb.mono hHeld.size)
    clear hq hb hHeld
    go_simp
    refine hK'.out _ _ hS4 (fun hHeld => ?_)
    clear hK' K'
    refine Hl.takeL (i := 7) (d := 9) (v := ?_) rfl (by kernel_rfl) (by kernel_rfl) (by kernel_rfl) (fun _ _ _ h => h) (by rfl) ?_ (by first | assumption | trivial) ?_
    rotate_left
    · intro w hSw; skip; go_simp; (try with_reducible rfl)
    simp only [Act.put, List.setIfInBounds_toArray, List.set_cons_zero, List.set_cons_succ]
    refine wpAnyH_done (by kernel_rfl) ?_ _
    go_wp2_with fail
    go_meet
    case rel => exact ⟨R0, p, rfl, HO⟩
  case rest =>
    clear HX HNw HM HWf HSm HP ew hn2 hn4 HEw wk8
    obtain ⟨R0, p, rfl, HO⟩ := hcut
    generalize Q23.mk m (wn : Int) = s0 at HO HPn HTl
    obtain ⟨n, hn⟩ : ∃ n, an % 5000 = n := ⟨_, rfl⟩
    have en : (an : Int).tmod 5000 = (n : Int) := by rw [Int.tmod_eq_emod_of_nonneg (by omega)]; omega
    have hn5 : (n : Int) < 5000 := by omega
    have an16 : (an : Int) ≤ 65535 := by omega
    have HWn : Hid ((Lit.int .i64 (n : Int)).wf = true) := WalkArith.wf_i64 (by omega)
    clear hn
    go_wp2_with fail
    refine (HO.out.turn (fun F hF => HS.out.begin_ R0 _ p F s0 0 (HQ.out _ HO.out.bel) HO.out.rows (by decide) hF)).mono ?_
    rintro e w5 ⟨rfl, hq⟩
    replace HO : Hid (Oq.O1 (At R0) W w5 p (Q23.begin_ s0 0) R0) := hq
    have HPl : Hid ((Q23.begin_ s0 0).plan.length ≤ 1000) := HPn.out
    have HOn : Hid ((Q23.begin_ s0 0).op = none) := rfl
    have HTb : Hid (∀ t ∈ (Q23.begin_ s0 0).plan, -10000 ≤ t.til ∧ t.til ≤ 10000) := HTl.out
    clear hq HPn HTl
    generalize Q23.begin_ s0 0 = s1 at HO HPl HOn HTb
    go_wp2_with fail
    refine (HO.out.turnL (fun F hF => HS.out.now R0 _ p F s1 (n : Int) (HQ.out _ HO.out.bel) HO.out.rows HWn.out hF)).mono ?_
    rintro e w6 ⟨a1, c1, K1, rfl, hl, _, hq⟩
    have HLl : Hid ((Q23.told s1 (n : Int)).length ≤ 1000) := Nat.le_trans (Q23.told_le s1 _) HPl.out
    have HLa : Hid (Oq.Lst (K1 ++ R0) a1 c1 (Q23.told s1 (n : Int)).length ((Q23.told s1 (n : Int)).flatMap tC)) := hl.more (fun x hx => List.mem_append_left _ hx)
    have HOp : Hid ((Q23.now s1 (n : Int)).op = Q23.lastO none (Q23.told s1 (n : Int))) := by show _ = _; rw [Q23.op_now, HOn.out]
    have HTt : Hid (∀ t ∈ Q23.told s1 (n : Int), -10000 ≤ t.til ∧ t.til ≤ 10000) := fun t ht => HTb.out t (Q23.mem_told ht)
    have HT0 : Hid (Oq.S1 (At R0) R0 W (w6.alloc (.cells (trA Q23.tz) 36)) p (Q23.now s1 (n : Int)) w6.heap.size 36 (trA Q23.tz) (K1 ++ R0)) := Oq.S1.make (HI.out R0) hq (fun x hx => List.mem_append_right _ hx) _ _
    clear hl hq HO HPl HOn HTb
    generalize Q23.told s1 (n : Int) = L at HLl HLa HOp HTt ⊢
    generalize Q23.now s1 (n : Int) = s2 at HOp HT0
    dsimp only [trA, Q23.tz] at HT0
    have hL1000 : (L.length : Int) ≤ 1000 := by have := HLl.out; omega
    clear en an16 hn5
    go_upto_region 10 with fail
    generalize w6.alloc (.cells #[.int .i64 0, .int .i64 0, .int .i64 0, .int .i64 0, .int .i64 0, .int .i64 0] 36) = w7 at HT0 ⊢
    generalize w6.heap.size = gO at HT0 ⊢
    go_wp2_with fail
    go_loopw [12, 13] (fun v12 v13 wr => ∃ (k : Nat) (o : Yq.Tr), k ≤ L.length ∧ v13 = .int .i64 (k : Int) ∧ v12 = .bool (Q23.lastO none (L.take k)).isSome ∧ Hid (Oq.S1 (At R0) R0 W wr p s2 gO 36 (trA o) (K1 ++ R0)) ∧ Hid ((Q23.lastO none (L.take k)).getD Q23.tz = o) ∧ Hid (-10000 ≤ o.til ∧ o.til ≤ 10000)) (fun _ v13 _ => L.length - (intOf v13).toNat)
    case atStart => exact ⟨0, Q23.tz, Nat.zero_le _, rfl, rfl, HT0, rfl, (by decide : (-10000 : Int) ≤ Q23.tz.til ∧ Q23.tz.til ≤ 10000)⟩
    case round =>
      clear HT0
      obtain ⟨k, o, hk, rfl, rfl, HV, HOo, HOr⟩ := hrel
      by_cases hkl : k < L.length
      · obtain ⟨t, ht⟩ : ∃ t, L[k]? = some t := ⟨_, List.getElem?_eq_getElem hkl⟩
        obtain ⟨g', o2, rfl, hcy⟩ := LI.trig (HLa.out.li HV.out.rk) ht
        have HTk : Hid (Q23.lastO none (L.take (k + 1)) = if Q23.may t then some t else Q23.lastO none (L.take k)) := Q23.lastO_take none ht
        have HTr : Hid (-10000 ≤ t.til ∧ t.til ≤ 10000) := HTt.out t (List.mem_of_getElem? ht)
        have hki : (k : Int) < (L.length : Int) := by omega
        have HKl : Hid (k + 1 ≤ L.length) := hkl
        obtain ⟨z0, z1, z2, z3, z4, z5⟩ := hcy _ (Below.refl _ _)
        clear hcy ht hkl
        obtain ⟨p0, p1, p2, p3, p4, p5⟩ := t
        dsimp only at z0 z1 z2 z3 z4 z5
        by_cases e1 : p0 = 1
        · subst e1
          go_wp2_with (refine wpList_store_row (P := Tryd.prog) rfl 36 (.tmp 11) (.tmp 70) rfl gO (trA ⟨1, p1, p2, p3, p4, p5⟩) rfl rfl 36 _ HV.out.row tinfo23 rfl (tr_one _) ?_)
          have HV3 : Hid (Oq.S1 (At R0) R0 W (wr.setRow gO (trA ⟨1, p1, p2, p3, p4, p5⟩)) p s2 gO 36 (trA ⟨1, p1, p2, p3, p4, p5⟩) (K1 ++ R0)) := HV.out.put (HI.out R0) _
          have HO3 : Hid (Q23.lastO none (L.take (k + 1)) = some ⟨1, p1, p2, p3, p4, p5⟩) := HTk.out.trans (if_pos (by simp [Q23.may]))
          clear HV z0 z1 z2 z3 z4 z5 HOo HTk HOr
          generalize wr.setRow gO (trA ⟨1, p1, p2, p3, p4, p5⟩) = w15 at HV3 ⊢
          go_wp2_with fail
          go_roundw
          case rel => exact ⟨k + 1, ⟨1, p1, p2, p3, p4, p5⟩, HKl.out, rfl, by rw [HO3.out]; rfl, HV3, by show _ = _; rw [HO3.out]; rfl, HTr⟩
          case measure => simp only [intOf]; omega
        have f1 : (p0 == 1) = false := beq_eq_false_iff_ne.2 e1
        by_cases e2 : p0 = 2
        · subst e2
          go_wp2_with (refine wpList_store_row (P := Tryd.prog) rfl 36 (.tmp 11) (.tmp 70) rfl gO (trA ⟨2, p1, p2, p3, p4, p5⟩) rfl rfl 36 _ HV.out.row tinfo23 rfl (tr_one _) ?_)
          have HV3 : Hid (Oq.S1 (At R0) R0 W (wr.setRow gO (trA ⟨2, p1, p2, p3, p4, p5⟩)) p s2 gO 36 (trA ⟨2, p1, p2, p3, p4, p5⟩) (K1 ++ R0)) := HV.out.put (HI.out R0) _
          have HO3 : Hid (Q23.lastO none (L.take (k + 1)) = some ⟨2, p1, p2, p3, p4, p5⟩) := HTk.out.trans (if_pos (by simp [Q23.may]))
          clear HV z0 z1 z2 z3 z4 z5 HOo HTk HOr
          generalize wr.setRow gO (trA ⟨2, p1, p2, p3, p4, p5⟩) = w15 at HV3 ⊢
          go_wp2_with fail
          go_roundw
          case rel => exact ⟨k + 1, ⟨2, p1, p2, p3, p4, p5⟩, HKl.out, rfl, by rw [HO3.out]; rfl, HV3, by show _ = _; rw [HO3.out]; rfl, HTr⟩
          case measure => simp only [intOf]; omega
        have f2 : (p0 == 2) = false := beq_eq_false_iff_ne.2 e2
        have HO3 : Hid (Q23.lastO none (L.take (k + 1)) = Q23.lastO none (L.take k)) := HTk.out.trans (if_neg (by simp [Q23.may, e1, e2]))
        go_wp2_with fail
        go_roundw
        case rel => exact ⟨k + 1, o, HKl.out, rfl, by rw [HO3.out], HV, by show _ = _; rw [HO3.out]; exact HOo.out, HOr⟩
        case measure => simp only [intOf]; omega
      · obtain rfl : k = L.length := by omega
        have hnl : ¬ ((L.length : Int) < (L.length : Int)) := by omega
        have HE : Hid (s2.op.getD Q23.tz = o) := by show _ = _; rw [HOp.out]; have := HOo.out; rwa [List.take_length] at this
        obtain ⟨b, hb⟩ : ∃ b, s2.op.isSome = b := ⟨_, rfl⟩
        have HE1 : Hid ((Q23.lastO none L).isSome = b) := by show _ = _; rw [← hb, HOp.out]
        have HE2 : Hid ((Q23.lastO none (L.take L.length)).isSome = b) := by show _ = _; rw [List.take_length]; exact HE1.out
        have HOv : Hid (opV s2.op = .tuple #[trV o, .bool b]) := by show _ = _; rw [← HE.out, ← hb]; rfl
        have HOw : Hid (Q23.over s2 (o.til + 1) = b) := by
          show _ = _
          rw [← hb, ← HE.out]
          unfold Q23.over
          cases s2.op with
          | none => rfl
          | some t => show decide (t.til < t.til + 1) = true; exact decide_eq_true (by omega)
        clear hb HOo HOp HTt HLa
        obtain ⟨p0, p1, p2, p3, p4, p5⟩ := o
        have hp5 : -10000 ≤ p5 ∧ p5 ≤ 10000 := HOr.out
        obtain ⟨hp5a, hp5b⟩ := hp5
        have HWt : Hid ((Lit.int .i64 (p5 + 1)).wf = true) := WalkArith.wf_i64 (by omega)
        clear HE HOr
        rw [HE2.out]
        go_wp2_with fail
        refine (HV.out.look (HI.out R0) (fun F hF => HS.out.open_ R0 _ p F s2 (HQ.out _ HV.out.bel) HV.out.r0 hF)).mono ?_
        rintro e w10 ⟨rfl, hq⟩
        rw [HOv.out]
        dsimp only [trV]
        have HR0 : Hid (∀ x ∈ R0, x ∈ K1 ++ R0) := fun x hx => List.mem_append_right _ hx
        have HV2 : Hid (Oq.O1 (At R0) W (w10.alloc (.cells #[.int .i64 p0, .int .i64 p1, .int .i64 p2, .int .i64 p3, .int .i64 p4, .int .i64 p5] 36)) p s2 ((w10.heap.size, .cells #[.int .i64 p0, .int .i64 p1, .int .i64 p2, .int .i64 p3, .int .i64 p4, .int .i64 p5] 36) :: (gO, .cells #[.int .i64 p0, .int .i64 p1, .int .i64 p2, .int .i64 p3, .int .i64 p4, .int .i64 p5] 36) :: (K1 ++ R0))) := Oq.O1.al (HI.out R0) hq.1 _
        clear hq HV HOv
        go_upto_region 17 with fail
        generalize w10.alloc (.cells #[.int .i64 p0, .int .i64 p1, .int .i64 p2, .int .i64 p3, .int .i64 p4, .int .i64 p5] 36) = w11 at HV2 ⊢
        generalize w10.heap.size = g1 at HV2 ⊢
        have HRo : Hid (RowT 36 w11 gO #[.int .i64 p0, .int .i64 p1, .int .i64 p2, .int .i64 p3, .int .i64 p4, .int .i64 p5]) := HV2.out.rows (gO, .cells #[.int .i64 p0, .int .i64 p1, .int .i64 p2, .int .i64 p3, .int .i64 p4, .int .i64 p5] 36) (by simp)
        have r5 := HRo.out.c 5 _ rfl
        go_wp2_with fail
        have hlk := fun F (hF : At R0 w11 p F s2) => HS.out.over R0 _ p F s2 (p5 + 1) (HQ.out _ HV2.out.bel) (HV2.out.rows.more (fun x hx => List.mem_cons_of_mem _ (List.mem_cons_of_mem _ (HR0.out x hx)))) HWt.out hF
        rw [HOw.out] at hlk
        refine (HV2.out.look (HI.out R0) hlk).mono ?_
        rintro e w12 ⟨rfl, hq⟩
        have HV3 : Hid (Oq.O1 (At R0) W w12 p s2 ((g1, .cells #[.int .i64 p0, .int .i64 p1, .int .i64 p2, .int .i64 p3, .int .i64 p4, .int .i64 p5] 36) :: (gO, .cells #[.int .i64 p0, .int .i64 p1, .int .i64 p2, .int .i64 p3, .int .i64 p4, .int .i64 p5] 36) :: (K1 ++ R0))) := hq
        clear hq hlk HV2 HRo r5
        go_wp2_with fail
        refine (HV3.out.turn (fun F hF => HS.out.begin_ R0 _ p F s2 0 (HQ.out _ HV3.out.bel) (HV3.out.rows.more (fun x hx => List.mem_cons_of_mem _ (List.mem_cons_of_mem _ (HR0.out x hx)))) (by decide) hF)).mono ?_
        rintro e w13 ⟨rfl, hq⟩
        have HV4 : Hid (Oq.O1 (At R0) W w13 p (Q23.begin_ s2 0) ((g1, .cells #[.int .i64 p0, .int .i64 p1, .int .i64 p2, .int .i64 p3, .int .i64 p4, .int .i64 p5] 36) :: (gO, .cells #[.int .i64 p0, .int .i64 p1, .int .i64 p2, .int .i64 p3, .int .i64 p4, .int .i64 p5] 36) :: (K1 ++ R0))) := hq
        have HE5 : Hid ((Q23.begin_ s2 0).op = none) := rfl
        clear hq HV3
        generalize Q23.begin_ s2 0 = s3 at HV4 HE5
        go_wp2_with fail
        have hlk := fun F (hF : At R0 w13 p F s3) => HS.out.open_ R0 _ p F s3 (HQ.out _ HV4.out.bel) (HV4.out.rows.more (fun x hx => List.mem_cons_of_mem _ (List.mem_cons_of_mem _ (HR0.out x hx)))) hF
        rw [HE5.out] at hlk
        refine (HV4.out.look (HI.out R0) hlk).mono ?_
        rintro e w14 ⟨rfl, hq⟩
        have HV5 : Hid (Oq.O1 (At R0) W (w14.alloc (.cells #[.int .i64 0, .int .i64 0, .int .i64 0, .int .i64 0, .int .i64 0, .int .i64 0] 36)) p s3 ((g1, .cells #[.int .i64 p0, .int .i64 p1, .int .i64 p2, .int .i64 p3, .int .i64 p4, .int .i64 p5] 36) :: (gO, .cells #[.int .i64 p0, .int .i64 p1, .int .i64 p2, .int .i64 p3, .int .i64 p4, .int .i64 p5] 36) :: (K1 ++ R0))) := (Oq.O1.al (HI.out R0) hq _).less (fun x hx => List.mem_cons_of_mem _ hx)
        clear hq hlk HV4
        dsimp only [opV, trV, Option.getD_none, Option.isSome_none, Q23.tz]
        go_upto_region 20 with fail
        generalize w14.alloc (.cells #[.int .i64 0, .int .i64 0, .int .i64 0, .int .i64 0, .int .i64 0, .int .i64 0] 36) = w15 at HV5 ⊢
        have HRo : Hid (RowT 36 w15 gO #[.int .i64 p0, .int .i64 p1, .int .i64 p2, .int .i64 p3, .int .i64 p4, .int .i64 p5]) := HV5.out.rows (gO, .cells #[.int .i64 p0, .int .i64 p1, .int .i64 p2, .int .i64 p3, .int .i64 p4, .int .i64 p5] 36) (by simp)
        have HRz : Hid (RowT 36 w15 g1 #[.int .i64 p0, .int .i64 p1, .int .i64 p2, .int .i64 p3, .int .i64 p4, .int .i64 p5]) := HV5.out.rows (g1, .cells #[.int .i64 p0, .int .i64 p1, .int .i64 p2, .int .i64 p3, .int .i64 p4, .int .i64 p5] 36) (by simp)
        have z0 := HRz.out.c 0 _ rfl
        have r0 := HRo.out.c 0 _ rfl
        have z1 := HRz.out.c 1 _ rfl
        have r1 := HRo.out.c 1 _ rfl
        have z2 := HRz.out.c 2 _ rfl
        have r2 := HRo.out.c 2 _ rfl
        have z3 := HRz.out.c 3 _ rfl
        have r3 := HRo.out.c 3 _ rfl
        have z4 := HRz.out.c 4 _ rfl
        have r4 := HRo.out.c 4 _ rfl
        have z5 := HRz.out.c 5 _ rfl
        have r5 := HRo.out.c 5 _ rfl
        have HBb : Hid ((b == b) = true) := by show _ = _; cases b <;> rfl
        have hbb := HBb.out
        go_wp2_with fail
        have hlk := fun F (hF : At R0 w15 p F s3) => HS.out.over R0 _ p F s3 9000 (HQ.out _ HV5.out.bel) (HV5.out.rows.more (fun x hx => List.mem_cons_of_mem _ (List.mem_cons_of_mem _ (HR0.out x hx)))) (by decide) hF
        have hov : Q23.over s3 9000 = false := by unfold Q23.over; rw [HE5.out]
        rw [hov] at hlk
        refine (HV5.out.look (HI.out R0) hlk).mono ?_
        rintro e w16 ⟨rfl, hq⟩
        have HB : Hid (Below W.heap.size W w16) := hq.bel
        clear hq hlk HV5 HRo HRz z0 z1 z2 z3 z4 z5 r0 r1 r2 r3 r4 r5
        go_wp2_with fail
        go_ret
        exact ⟨by simp_all, HB.out⟩
end Go.Proofs.YtnbfnipdiffphaaDoor.schedLast
