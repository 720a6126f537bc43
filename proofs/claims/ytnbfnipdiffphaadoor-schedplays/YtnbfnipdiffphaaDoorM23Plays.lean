/- SchedPlays: of every matrix of few entries, node, slice of at most thirty steps (others are let by) and unit: every row of cycles begun and units come to: what is due, what is open, whether that is over, behind each; no condition. -/
import Derived.Test.YtnbfnipdiffphaaDoorB23
import Derived.Test.YtnbfnipdiffphaaDoorM23T
import Derived.Test.YtnbfnipdiffphaaDoorOt
import Derived.Test.YtnbfnipdiffphaaDoorYh
import Derived.Test.YtnbfnipdiffphaaDoorYb
import Derived.Deep.CutBlock
import Derived.ProofKit
import Derived.OpenShut
namespace Go.Proofs.YtnbfnipdiffphaaDoor
open Go.RowKit Go.WideShapes
set_option linter.unusedVariables false
/-- The steps' cells, as the walk meets them. -/
def StepRow23 (W : World) (s : Option Addr) (len : Nat) (wh ns : Nat → Int) : Prop := len = 0 ∨ ∃ b off, s = some ⟨b, off, none⟩ ∧ ∀ i, i < len →
  W.cell? ⟨b, off + i * 2, none⟩ = some (.int .i64 (wh i)) ∧ W.cell? ⟨b, off + i * 2 + 1, none⟩ = some (.int .i64 (ns i)) ∧ (Lit.int .i64 (wh i)).wf = true ∧ (Lit.int .i64 (ns i)).wf = true
theorem Yq.plan_wf' (m : Mx.M) (who : Int) : ∀ t ∈ Yq.plan m who, Yq.Wf t := fun t ht => by
  by_cases hc : (Lq.check m).2 = 0
  · exact Yq.plan_wf (Lq.passes_of hc) ht
  · unfold Yq.plan at ht
    rw [if_neg hc] at ht
    cases ht
theorem Q23.cyc_now (s : Q23.St) (n : Int) : (Q23.now s n).cycle = s.cycle := by unfold Q23.now; split <;> rfl
/-- The state of law 23's sched in a round: the object, the open trigger's row. -/
def G23 {At : Oq.Rs → Ob.A Q23.St} (R0 : Oq.Rs) (s : Q23.St) (pl : List Yq.Tr) (o : Yq.Tr) : Prop := s.plan = pl ∧ (∀ t, s.op = some t → t = o) ∧ (Lit.int .i64 s.cycle).wf = true
end Go.Proofs.YtnbfnipdiffphaaDoor
namespace Go.Proofs.YtnbfnipdiffphaaDoor.schedPlays
open Go.ChangeShapes Go.WideShapes Go.ChangeAt Go.RowKit
set_option linter.unusedVariables false
variable {Q : World → Prop} {At : Oq.Rs → Ob.A Q23.St}
set_option maxRecDepth 100000 in
set_option maxHeartbeats 40000000 in
theorem walkA (hQ : ∀ w w', Q w → Below w.heap.size w w' → Q w') (S : SchedSpec Q At) (m : Mx.M) (a : Ma) (who : Int) (s2 : Option Addr) (len2 cap2 : Nat) (at_ : Int) {W0 : World} (hm : MIn W0 m a) (hwf : Mx.Wf m) (hwho : (Lit.int .i64 who).wf = true) (hst : ∃ wh ns, StepRow23 W0 s2 len2 wh ns) (hat : (Lit.int .i64 at_).wf = true) (W : World) (hw0 : W = W0) (hW : Q W) :
    Calls Tryd.prog 3 #[mV m a, .int .i64 who, .slice s2 len2 cap2, .int .i64 at_] W fun e w' => e = .returned (.bool true) ∧ Below W.heap.size W w' := by
  subst hw0
  obtain ⟨wh, ns, hst⟩ := hst
  have HQ : Hid (∀ w, Below W.heap.size W w → Q w) := fun w hb => hQ W w hW hb
  have HK : Hid (∀ w, Below W.heap.size W w → Calls Tryd.prog 7 #[] w fun e w' => e = .returned (.bool true) ∧ Below w.heap.size w w') := fun w hb => known23_any hQ S w (HQ.out _ hb)
  have HWf : Hid (Mx.Wf m) := hwf
  have HWo : Hid ((Lit.int .i64 who).wf = true) := hwho
  have HWa : Hid ((Lit.int .i64 at_).wf = true) := hat
  have HSt : Hid (StepRow23 W s2 len2 wh ns) := hst
  have HI : Hid (∀ R, Ob.Is (At R)) := S.is
  have HS : Hid (SchedSpec Q At) := S
  have HX : Hid (Bx W (W.alloc (.cells (mCs m a) 27)) W.heap.size m a) := Bx.mk' hm
  clear hm hwf hQ hW hwho hat hst S
  show Calls _ _ #[.agg (mCs m a), _, _, _] _ _
  go_enter Tryd.func3, Tryd.ntmps3
  go_upto_region 1 with fail
  generalize W.alloc (.cells (mCs m a) 27) = v at HX ⊢
  go_wp2_with fail
  refine (HK.out _ HX.out.below).mono ?_
  rintro e w1 ⟨rfl, hb⟩
  replace HX : Hid (Bx W w1 W.heap.size m a) := HX.out.on hb
  clear hb HK
  obtain ⟨y0, y1, y2, y3, y4, y5, y6, y7, y8, y9, y10⟩ := HX.out.row.mat
  go_wp2_with fail
  refine (few23_any w1 m a).mono ?_
  rintro e w2 ⟨rfl, hb⟩
  replace HX : Hid (Bx W w2 W.heap.size m a) := HX.out.on hb
  clear y0 y1 y10 y2 y3 y4 y5 y6 y7 y8 y9 hb
  cases hfw : Mx.few m
  · go_wp2
    go_ret
    exact ⟨rfl, HX.out.below⟩
  have HSm : Hid (Mx.Small m) := Mx.few_small hfw
  clear hfw
  by_cases h30 : 30 < len2
  · have h30i : (30 : Int) < (len2 : Int) := by omega
    clear h30
    go_wp2
    go_ret
    exact ⟨rfl, HX.out.below⟩
  have h30i : ¬ ((30 : Int) < (len2 : Int)) := by omega
  have HN : Hid (len2 ≤ 30) := by show _ ≤ _; omega
  clear h30
  obtain ⟨y0, y1, y2, y3, y4, y5, y6, y7, y8, y9, y10⟩ := HX.out.row.mat
  go_wp2_with fail
  refine (HS.out.new w2 w2 m a who (HQ.out _ HX.out.below) (Below.refl _ _) HX.out.mem HSm.out HWf.out HWo.out).mono ?_
  rintro e w3 ⟨R0, p, F, rfl, hR, hn, hA, hF, hb, _⟩
  have HO : Hid (Oq.O1 (At R0) W w3 p (Q23.mk m who) R0) := ⟨F, hA, fun g hg => Nat.le_trans HX.out.below.size (hF g hg), HX.out.below.trans (hb.mono HX.out.below.size), fun x hx => ⟨hR x hx, hn x hx⟩⟩
  replace HX : Hid (Bx W w3 W.heap.size m a) := HX.out.on hb
  clear y0 y1 y10 y2 y3 y4 y5 y6 y7 y8 y9 hb hR hn hA hF
  obtain ⟨y0, y1, y2, y3, y4, y5, y6, y7, y8, y9, y10⟩ := HX.out.row.mat
  go_wp2_with fail
  refine (HO.out.tell (HI.out R0) (Oq.Tells.of_ol (rplanO_any w3 m a who HX.out.mem HSm.out HWf.out))).mono ?_
  rintro e w4 ⟨a10, c10, K1, rfl, hl, _, hq⟩
  have HPl : Hid (∀ K, Oq.Lst (K ++ (K1 ++ R0)) a10 c10 (Yq.plan m who).length ((Yq.plan m who).flatMap tC)) := fun K => hl.more (fun x hx => List.mem_append_right _ (List.mem_append_left _ hx))
  have HLe : Hid ((Yq.plan m who).length ≤ 1000) := Yq.plan_len m who HSm.out
  have HWp : Hid (∀ t ∈ Yq.plan m who, Yq.Wf t) := Yq.plan_wf' m who
  have HG0 : Hid (@G23 At R0 (Q23.mk m who) (Yq.plan m who) Q23.tz) := ⟨rfl, (fun t h => by cases h), (by decide : (Lit.int .i64 0).wf = true)⟩
  have HT0 : Hid (Oq.S1 (At R0) R0 W (w4.alloc (.cells (trA Q23.tz) 36)) p (Q23.mk m who) w4.heap.size 36 (trA Q23.tz) (K1 ++ R0)) := Oq.S1.make (HI.out R0) hq (fun x hx => List.mem_append_right _ hx) _ _
  clear y0 y1 y10 y2 y3 y4 y5 y6 y7 y8 y9 hl hq HX HO HWf HWo HSm
  have h0c : (Q23.mk m who).cycle = 0 := rfl
  have h0a : (Q23.mk m who).at_ = -1 := rfl
  have h0o : (Q23.mk m who).op.isSome = false := rfl
  generalize Q23.mk m who = s0 at HT0 HG0 h0c h0a h0o
  generalize Yq.plan m who = pl at HPl HLe HWp HG0 ⊢
  generalize hpn : pl.length = pn at HPl HLe ⊢
  have HPn : Hid (pl.length = pn) := hpn
  clear hpn
  have HDue : Hid (∀ (w : World) (cy lo hi : Int), LI w a10 c10 pn (pl.flatMap tC) → (Lit.int .i64 cy).wf = true → Oq.Tells Tryd.prog 14 #[.slice a10 pn c10, .int .i64 cy, .int .i64 lo, .int .i64 hi] w (Yq.due pl cy lo hi).length ((Yq.due pl cy lo hi).flatMap tC)) := fun w cy lo hi h hc => by
    have hp := HPn.out
    have h1 := HLe.out
    subst hp
    exact Oq.Tells.of_ol (rdue_any w pl a10 c10 cy lo hi h h1 HWp.out hc)
  have HR0 : Hid (∀ x ∈ R0, x ∈ K1 ++ R0) := fun x hx => List.mem_append_right _ hx
  dsimp only [trA, Q23.tz] at HT0
  go_upto_region 9 with fail
  generalize w4.alloc (.cells #[.int .i64 0, .int .i64 0, .int .i64 0, .int .i64 0, .int .i64 0, .int .i64 0] 36) = w5 at HT0 ⊢
  generalize w4.heap.size = gO at HT0 ⊢
  generalize K1 ++ R0 = KK at HPl HT0 HR0
  go_wp2_with fail
  go_loopw [11, 12, 13, 15] (fun v11 v12 v13 v15 wr => ∃ (i : Nat) (s : Q23.St) (o : Yq.Tr), i ≤ len2 ∧ v15 = .int .i64 (i : Int) ∧ v11 = .int .i64 s.cycle ∧ v12 = .int .i64 s.at_ ∧ v13 = .bool s.op.isSome ∧ Hid (Oq.S1 (At R0) R0 W wr p s gO 36 (trA o) KK) ∧ Hid (@G23 At R0 s pl o)) (fun _ _ _ v15 _ => len2 - (intOf v15).toNat)
  case atStart => exact ⟨0, s0, Q23.tz, Nat.zero_le _, rfl, by rw [h0c], by rw [h0a], by rw [h0o], HT0, HG0⟩
  case round =>
    clear HT0 HG0 h0c h0a h0o
    obtain ⟨i, s, o, hi, rfl, rfl, rfl, rfl, HT, HG⟩ := hrel
    by_cases hlt : i < len2
    · have hii : (i : Int) < (len2 : Int) := by omega
      have hib : (i : Int) < 31 := by have := HN.out; omega
      obtain ⟨b, off, rfl, x0, x1, xw0, xw1⟩ : ∃ b off, s2 = some ⟨b, off, none⟩ ∧ W.cell? ⟨b, off + i * 2, none⟩ = some (.int .i64 (wh i)) ∧ W.cell? ⟨b, off + i * 2 + 1, none⟩ = some (.int .i64 (ns i)) ∧ (Lit.int .i64 (wh i)).wf = true ∧ (Lit.int .i64 (ns i)).wf = true := by
        rcases HSt.out with h | ⟨b, off, hs, h⟩
        · omega
        · exact ⟨b, off, hs, h i hlt⟩
      have HX0 : Hid (∀ w', Below W.heap.size W w' → w'.cell? ⟨b, off + i * 2, none⟩ = some (.int .i64 (wh i)) ∧ w'.cell? ⟨b, off + i * 2 + 1, none⟩ = some (.int .i64 (ns i))) := fun w' hb => ⟨(hb.cell (p := ⟨b, off + i * 2, none⟩) (block_lt_of_cell x0)).trans x0, (hb.cell (p := ⟨b, off + i * 2 + 1, none⟩) (block_lt_of_cell x1)).trans x1⟩
      clear x0 x1
      generalize wh i = wt at HX0 xw0
      generalize ns i = n at HX0 xw1
      have HWn : Hid ((Lit.int .i64 n).wf = true) := xw1
      clear xw0 xw1
      have HSl : Hid (StepRow23 W (some ⟨b, off, none⟩) len2 wh ns) := HSt
      clear HSt
      obtain ⟨c0, c1⟩ := HX0.out _ HT.out.bel
      go_wp2_with fail
      refine (HT.out.make2 (HI.out R0) (fun F hF => HS.out.copy R0 _ p F s (HQ.out _ HT.out.bel) HT.out.r0 hF)).mono ?_
      rintro e w6 ⟨q, rfl, hq⟩
      have HU : Hid (Oq.S2 (At R0) (At R0) R0 W w6 p s q s gO 36 (trA o) KK) := hq
      clear c0 c1
      obtain ⟨c0, c1⟩ := HX0.out _ hq.bel
      clear hq HT
      go_upto_block 2 with fail
      clear c0 c1 HX0
      go_cut [11, 12, 13, 18, 19, 20] from 39 to 117 (fun v11 v12 v13 _v18 _v19 _v20 wx => ∃ (s' : Q23.St) (o' : Yq.Tr) (K : Oq.Rs), v11 = .int .i64 s'.cycle ∧ v12 = .int .i64 s'.at_ ∧ v13 = .bool s'.op.isSome ∧ Hid (Oq.S2 (At R0) (At R0) R0 W wx p s' q s gO 36 (trA o') (K ++ KK)) ∧ Hid (@G23 At R0 s' pl o'))
      case first =>
        by_cases h0 : wt = 0
        · subst h0
          go_wp2_with fail
          refine (HU.out.turn (HI.out R0) (fun F hF => HS.out.begin_ R0 _ p F s n (HQ.out _ HU.out.bel) HU.out.r0 HWn.out hF)).mono ?_
          rintro e w7 ⟨rfl, hq⟩
          have HD : Hid (Oq.S2 (At R0) (At R0) R0 W w7 p (Q23.begin_ s n) q s gO 36 (trA o) ([] ++ KK)) := hq
          have HE : Hid (@G23 At R0 (Q23.begin_ s n) pl o) := ⟨HG.out.1, (fun t h => by cases h), HWn.out⟩
          clear hq HU
          go_wp2_with fail
          go_meet
          case rel => exact ⟨Q23.begin_ s n, o, [], rfl, rfl, rfl, HD, HE⟩
        have b0 : (wt == 0) = false := beq_eq_false_iff_ne.2 h0
        by_cases h1 : wt = 1
        · subst h1
          go_wp2_with fail
          refine (HU.out.turn (HI.out R0) (fun F hF => HS.out.close R0 _ p F s (HQ.out _ HU.out.bel) HU.out.r0 hF)).mono ?_
          rintro e w7 ⟨rfl, hq⟩
          have HD : Hid (Oq.S2 (At R0) (At R0) R0 W w7 p (Q23.close s) q s gO 36 (trA o) ([] ++ KK)) := hq
          have HE : Hid (@G23 At R0 (Q23.close s) pl o) := ⟨HG.out.1, (fun t h => by cases h), HG.out.2.2⟩
          clear hq HU
          go_wp2_with fail
          go_meet
          case rel => exact ⟨Q23.close s, o, [], rfl, rfl, rfl, HD, HE⟩
        have b1 : (wt == 1) = false := beq_eq_false_iff_ne.2 h1
        clear h0 h1
        have HLl : Hid ((Q23.told s n).length ≤ 1000) := by
          show _ ≤ _
          have h1 := Q23.told_le s n
          rw [HG.out.1] at h1
          have := HLe.out
          have := HPn.out
          omega
        have HAn : Hid (∀ hn : n < s.at_, Q23.told s n = [] ∧ Q23.now s n = s) := fun hn => ⟨Q23.told_lo hn, Q23.now_lo hn⟩
        have HAh : Hid (∀ hn : ¬ n < s.at_, Q23.told s n = Yq.due pl s.cycle s.at_ n ∧ (Q23.now s n).at_ = n) := fun hn => ⟨(Q23.told_hi hn).trans (by rw [HG.out.1]), by rw [Q23.now_hi hn]⟩
        by_cases hn : n < s.at_
        · obtain ⟨e1, e2⟩ := HAn.out hn
          have hni : ¬ (s.at_ ≤ n) := by omega
          have HB : Hid (Oq.Lst ([] ++ KK) none 0 (Q23.told s n).length ((Q23.told s n).flatMap tC) ∧ Oq.S2 (At R0) (At R0) R0 W w6 p s q s gO 36 (trA o) ([] ++ KK)) := ⟨by rw [e1]; exact ⟨Nat.le_refl _, Nat.zero_le _, Or.inl rfl⟩, HU.out⟩
          have HE2 : Hid (s.at_ = (Q23.now s n).at_) := by show _ = _; rw [e2]
          have HLz : Hid ((Q23.told s n).length = 0) := by show _ = _; rw [e1]; rfl
          clear e1 e2 hn HU
          obtain ⟨K, hK⟩ : ∃ K : Oq.Rs, K = [] := ⟨[], rfl⟩
          rw [← hK] at HB
          clear hK
          obtain ⟨a18, ha⟩ : ∃ a : Option Addr, a = none := ⟨none, rfl⟩
          rw [← ha] at HB
          have HA18 : Hid (a18 = none) := ha
          clear ha

          go_wp2_with fail
          refine (HB.out.2.turnL (HI.out R0) (fun F hF => HS.out.now R0 _ p F s n (HQ.out _ HB.out.2.bel) HB.out.2.r0 HWn.out hF)).mono ?_
          rintro e w9 ⟨a19, c19, K2, rfl, hl, hq⟩
          rw [← List.append_assoc] at hl hq
          have H18 : Hid (Oq.Lst (K2 ++ K ++ KK) a18 0 (Q23.told s n).length ((Q23.told s n).flatMap tC)) := HB.out.1.more (fun x hx => by rw [List.append_assoc]; exact List.mem_append_right _ hx)
          have H19 : Hid (Oq.Lst (K2 ++ K ++ KK) a19 c19 (Q23.told s n).length ((Q23.told s n).flatMap tC)) := hl
          have HV : Hid (Oq.S2 (At R0) (At R0) R0 W w9 p (Q23.now s n) q s gO 36 (trA o) (K2 ++ K ++ KK)) := hq
          have HOp : Hid ((Q23.now s n).op = Q23.lastO s.op (Q23.told s n)) := Q23.op_now s n
          clear hl hq HB HAn HAh
          generalize Q23.told s n = L at H18 H19 HOp HLl HLz ⊢
          generalize K2 ++ K = K4 at H18 H19 HV
          have hL1000 : (L.length : Int) ≤ 1000 := by have := HLl.out; omega
          have hz : (L.length : Int) = 0 := by have := HLz.out; omega
          go_wp2_with fail
          go_loopw [13, 20] (fun v13 v20 wr => ∃ (k : Nat) (o' : Yq.Tr), k ≤ L.length ∧ v20 = .int .i64 (k : Int) ∧ v13 = .bool (Q23.lastO s.op (L.take k)).isSome ∧ Hid (Oq.S2 (At R0) (At R0) R0 W wr p (Q23.now s n) q s gO 36 (trA o') (K4 ++ KK)) ∧ Hid (∀ t, Q23.lastO s.op (L.take k) = some t → t = o')) (fun _ v20 _ => L.length - (intOf v20).toNat)
          case atStart => exact ⟨0, o, Nat.zero_le _, rfl, rfl, HV, fun t h => HG.out.2.1 t h⟩
          case round =>
            clear HV
            obtain ⟨k, o', hk, rfl, rfl, HV, HOo⟩ := hrel
            by_cases hkl : k < L.length
            · exact absurd hkl (by have := HLz.out; omega)
            · obtain rfl : k = L.length := by omega
              have hnl : ¬ ((L.length : Int) < (L.length : Int)) := by omega
              have HE1 : Hid (Q23.lastO s.op L = (Q23.now s n).op) := HOp.out.symm
              have HE : Hid (@G23 At R0 (Q23.now s n) pl o') := ⟨by rw [Q23.now_plan]; exact HG.out.1, (fun t h => HOo.out t (by rw [List.take_length, HE1.out]; exact h)), by rw [Q23.cyc_now]; exact HG.out.2.2⟩
              have HEc : Hid (s.cycle = (Q23.now s n).cycle) := (Q23.cyc_now s n).symm
              clear HOo HOp H18 H19
              go_wp2_with fail
              go_meet
              case rel => exact ⟨Q23.now s n, o', K4, by rw [HEc.out], congrArg (Value.int IntKind.i64) HE2.out, by first | rw [HE1.out] | rw [List.take_length, HE1.out], HV, HE⟩

        · obtain ⟨e1, e2⟩ := HAh.out hn
          have hni : s.at_ ≤ n := by omega
          have HE1 : Hid (Q23.told s n = Yq.due pl s.cycle s.at_ n) := e1
          have HE2 : Hid (n = (Q23.now s n).at_) := e2.symm
          clear e1 e2 hn
          go_wp2_with fail
          refine (HU.out.tell (HI.out R0) (HI.out R0) (HDue.out _ s.cycle s.at_ n ((HPl.out []).li HU.out.rk) HG.out.2.2)).mono ?_
          rintro e w8 ⟨a18, c18, K, rfl, hl, hq⟩
          have HB : Hid (Oq.Lst (K ++ KK) a18 c18 (Q23.told s n).length ((Q23.told s n).flatMap tC) ∧ Oq.S2 (At R0) (At R0) R0 W w8 p s q s gO 36 (trA o) (K ++ KK)) := ⟨by rw [HE1.out]; exact hl, hq⟩
          clear hl hq HU
          rw [← HE1.out]

          go_wp2_with fail
          refine (HB.out.2.turnL (HI.out R0) (fun F hF => HS.out.now R0 _ p F s n (HQ.out _ HB.out.2.bel) HB.out.2.r0 HWn.out hF)).mono ?_
          rintro e w9 ⟨a19, c19, K2, rfl, hl, hq⟩
          rw [← List.append_assoc] at hl hq
          have H18 : Hid (Oq.Lst (K2 ++ K ++ KK) a18 c18 (Q23.told s n).length ((Q23.told s n).flatMap tC)) := HB.out.1.more (fun x hx => by rw [List.append_assoc]; exact List.mem_append_right _ hx)
          have H19 : Hid (Oq.Lst (K2 ++ K ++ KK) a19 c19 (Q23.told s n).length ((Q23.told s n).flatMap tC)) := hl
          have HV : Hid (Oq.S2 (At R0) (At R0) R0 W w9 p (Q23.now s n) q s gO 36 (trA o) (K2 ++ K ++ KK)) := hq
          have HOp : Hid ((Q23.now s n).op = Q23.lastO s.op (Q23.told s n)) := Q23.op_now s n
          clear hl hq HB HAn HAh
          generalize Q23.told s n = L at H18 H19 HOp HLl ⊢
          generalize K2 ++ K = K4 at H18 H19 HV
          have hL1000 : (L.length : Int) ≤ 1000 := by have := HLl.out; omega
          skip
          go_wp2_with fail
          go_loopw [13, 20] (fun v13 v20 wr => ∃ (k : Nat) (o' : Yq.Tr), k ≤ L.length ∧ v20 = .int .i64 (k : Int) ∧ v13 = .bool (Q23.lastO s.op (L.take k)).isSome ∧ Hid (Oq.S2 (At R0) (At R0) R0 W wr p (Q23.now s n) q s gO 36 (trA o') (K4 ++ KK)) ∧ Hid (∀ t, Q23.lastO s.op (L.take k) = some t → t = o')) (fun _ v20 _ => L.length - (intOf v20).toNat)
          case atStart => exact ⟨0, o, Nat.zero_le _, rfl, rfl, HV, fun t h => HG.out.2.1 t h⟩
          case round =>
            clear HV
            obtain ⟨k, o', hk, rfl, rfl, HV, HOo⟩ := hrel
            by_cases hkl : k < L.length
            · obtain ⟨t, ht⟩ : ∃ t, L[k]? = some t := ⟨_, List.getElem?_eq_getElem hkl⟩
              obtain ⟨g, o1, rfl, hcx⟩ := LI.trig (H18.out.li HV.out.rk) ht
              obtain ⟨g', o2, rfl, hcy⟩ := LI.trig (H19.out.li HV.out.rk) ht
              have HTk : Hid (Q23.lastO s.op (L.take (k + 1)) = if Q23.may t then some t else Q23.lastO s.op (L.take k)) := Q23.lastO_take s.op ht
              have hki : (k : Int) < (L.length : Int) := by omega
              have HKl : Hid (k + 1 ≤ L.length) := hkl
              have HC : Hid (∀ w', Below wr.heap.size wr w' → (w'.cell? ⟨g, o1 + k * 6, none⟩ = some (.int .i64 t.kind) ∧ w'.cell? ⟨g, o1 + k * 6 + 1, none⟩ = some (.int .i64 t.at_) ∧ w'.cell? ⟨g, o1 + k * 6 + 2, none⟩ = some (.int .i64 t.cycle) ∧ w'.cell? ⟨g, o1 + k * 6 + 3, none⟩ = some (.int .i64 t.rep) ∧ w'.cell? ⟨g, o1 + k * 6 + 4, none⟩ = some (.int .i64 t.msg) ∧ w'.cell? ⟨g, o1 + k * 6 + 5, none⟩ = some (.int .i64 t.til)) ∧ (w'.cell? ⟨g', o2 + k * 6, none⟩ = some (.int .i64 t.kind) ∧ w'.cell? ⟨g', o2 + k * 6 + 1, none⟩ = some (.int .i64 t.at_) ∧ w'.cell? ⟨g', o2 + k * 6 + 2, none⟩ = some (.int .i64 t.cycle) ∧ w'.cell? ⟨g', o2 + k * 6 + 3, none⟩ = some (.int .i64 t.rep) ∧ w'.cell? ⟨g', o2 + k * 6 + 4, none⟩ = some (.int .i64 t.msg) ∧ w'.cell? ⟨g', o2 + k * 6 + 5, none⟩ = some (.int .i64 t.til))) := fun w' hb => ⟨hcx w' hb, hcy w' hb⟩
              clear hcx hcy ht hkl
              obtain ⟨p0, p1, p2, p3, p4, p5⟩ := t
              dsimp only at HC
              go_wp2_with fail
              refine Lw.wp_region_quiet_below (by kernel_rfl) (by kernel_rfl) ?_
              repeat (first
                | go_big_quiet_skip
                | (go_big_quiet_want; go_big_quiet_op; go_big_quiet_on)
                | (go_big_quiet_want; go_big_quiet_op; apply Exists.intro; refine ⟨fun _ hb' => ?_, ?_⟩; (first
                  | exact Lw.val_rfl _
                  | (simp [go_sem, (HC.out _ hb').1.1, (HC.out _ hb').1.2.1, (HC.out _ hb').1.2.2.1, (HC.out _ hb').1.2.2.2.1, (HC.out _ hb').1.2.2.2.2.1, (HC.out _ hb').1.2.2.2.2.2]; rfl)
                  | (simp [go_sem, (HC.out _ hb').2.1, (HC.out _ hb').2.2.1, (HC.out _ hb').2.2.2.1, (HC.out _ hb').2.2.2.2.1, (HC.out _ hb').2.2.2.2.2.1, (HC.out _ hb').2.2.2.2.2.2]; rfl)); go_big_quiet_on))
              refine wpQuiet_nil ?_
              intro w10 hb
              have HV2 : Hid (Oq.S2 (At R0) (At R0) R0 W w10 p (Q23.now s n) q s gO 36 (trA o') (K4 ++ KK)) := HV.out.on (HI.out R0) (HI.out R0) hb
              obtain ⟨_, z0, z1, z2, z3, z4, z5⟩ := HC.out _ hb
              clear hb HV HC
              by_cases e1 : p0 = 1
              · subst e1
                go_wp2_with (refine wpList_store_row (P := Tryd.prog) rfl 36 (.tmp 14) (.tmp 106) rfl gO (trA ⟨1, p1, p2, p3, p4, p5⟩) rfl rfl 36 _ HV2.out.row tinfo23 rfl (tr_one _) ?_)
                have HV3 : Hid (Oq.S2 (At R0) (At R0) R0 W (w10.setRow gO (trA ⟨1, p1, p2, p3, p4, p5⟩)) p (Q23.now s n) q s gO 36 (trA ⟨1, p1, p2, p3, p4, p5⟩) (K4 ++ KK)) := HV2.out.put (HI.out R0) (HI.out R0) _
                have HO3 : Hid (Q23.lastO s.op (L.take (k + 1)) = some ⟨1, p1, p2, p3, p4, p5⟩) := HTk.out.trans (if_pos (by simp [Q23.may]))
                clear HV2 z0 z1 z2 z3 z4 z5 HOo HTk
                generalize w10.setRow gO (trA ⟨1, p1, p2, p3, p4, p5⟩) = w15 at HV3 ⊢
                go_wp2_with fail
                go_roundw
                case rel => exact ⟨k + 1, ⟨1, p1, p2, p3, p4, p5⟩, HKl.out, rfl, by rw [HO3.out]; rfl, HV3, fun t h => by rw [HO3.out] at h; injection h with h; exact h.symm⟩
                case measure => simp only [intOf]; omega
              have f1 : (p0 == 1) = false := beq_eq_false_iff_ne.2 e1
              by_cases e2 : p0 = 2
              · subst e2
                go_wp2_with (refine wpList_store_row (P := Tryd.prog) rfl 36 (.tmp 14) (.tmp 106) rfl gO (trA ⟨2, p1, p2, p3, p4, p5⟩) rfl rfl 36 _ HV2.out.row tinfo23 rfl (tr_one _) ?_)
                have HV3 : Hid (Oq.S2 (At R0) (At R0) R0 W (w10.setRow gO (trA ⟨2, p1, p2, p3, p4, p5⟩)) p (Q23.now s n) q s gO 36 (trA ⟨2, p1, p2, p3, p4, p5⟩) (K4 ++ KK)) := HV2.out.put (HI.out R0) (HI.out R0) _
                have HO3 : Hid (Q23.lastO s.op (L.take (k + 1)) = some ⟨2, p1, p2, p3, p4, p5⟩) := HTk.out.trans (if_pos (by simp [Q23.may]))
                clear HV2 z0 z1 z2 z3 z4 z5 HOo HTk
                generalize w10.setRow gO (trA ⟨2, p1, p2, p3, p4, p5⟩) = w15 at HV3 ⊢
                go_wp2_with fail
                go_roundw
                case rel => exact ⟨k + 1, ⟨2, p1, p2, p3, p4, p5⟩, HKl.out, rfl, by rw [HO3.out]; rfl, HV3, fun t h => by rw [HO3.out] at h; injection h with h; exact h.symm⟩
                case measure => simp only [intOf]; omega
              have f2 : (p0 == 2) = false := beq_eq_false_iff_ne.2 e2
              have HO3 : Hid (Q23.lastO s.op (L.take (k + 1)) = Q23.lastO s.op (L.take k)) := HTk.out.trans (if_neg (by simp [Q23.may, e1, e2]))
              go_wp2_with fail
              go_roundw
              case rel => exact ⟨k + 1, o', HKl.out, rfl, by rw [HO3.out], HV2, fun t h => HOo.out t (by rw [HO3.out] at h; exact h)⟩
              case measure => simp only [intOf]; omega
            · obtain rfl : k = L.length := by omega
              have hnl : ¬ ((L.length : Int) < (L.length : Int)) := by omega
              have HE1 : Hid (Q23.lastO s.op L = (Q23.now s n).op) := HOp.out.symm
              have HE : Hid (@G23 At R0 (Q23.now s n) pl o') := ⟨by rw [Q23.now_plan]; exact HG.out.1, (fun t h => HOo.out t (by rw [List.take_length, HE1.out]; exact h)), by rw [Q23.cyc_now]; exact HG.out.2.2⟩
              have HEc : Hid (s.cycle = (Q23.now s n).cycle) := (Q23.cyc_now s n).symm
              clear HOo HOp H18 H19
              go_wp2_with fail
              go_meet
              case rel => exact ⟨Q23.now s n, o', K4, by rw [HEc.out], congrArg (Value.int IntKind.i64) HE2.out, by first | rw [HE1.out] | rw [List.take_length, HE1.out], HV, HE⟩

      case rest =>
        clear HU HG
        obtain ⟨s', o', K, rfl, rfl, h13, HU, HG⟩ := hcut
        go_wp2_with fail
        refine (HU.out.turnL2 (HI.out R0) (fun F hF => HS.out.now R0 _ q F s 9000 (HQ.out _ HU.out.bel) HU.out.r0 (by decide) hF)).mono ?_
        rintro e w11 ⟨a5, c5, K5, rfl, _, hq⟩
        have HT : Hid (Oq.S1 (At R0) R0 W w11 p s' gO 36 (trA o') KK) := Oq.S1.less (R := K5 ++ K) (by rw [List.append_assoc]; exact hq.fst) HR0.out
        clear hq HU
        go_wp2_with fail
        refine (HT.out.look (HI.out R0) (fun F hF => HS.out.open_ R0 _ p F s' (HQ.out _ HT.out.bel) HT.out.r0 hF)).mono ?_
        rintro e w12 ⟨rfl, hq⟩
        cases hop : s'.op with
        | none =>
          rw [hop] at h13
          subst h13
          have hov : Q23.over s' at_ = false := by unfold Q23.over; rw [hop]
          have hlk := fun (w : World) F (hb : Below W.heap.size W w) (hr : Oq.Rows R0 w) (hF : At R0 w p F s') => HS.out.over R0 w p F s' at_ (HQ.out _ hb) hr HWa.out hF
          rw [hov] at hlk
          have HLk : Hid (∀ (w : World) F, Below W.heap.size W w → Oq.Rows R0 w → At R0 w p F s' → Ob.Looks Tryd.prog 17 #[Ob.ptr p, .int .i64 at_] w (.bool (false))) := fun w F h1 h2 h3 => hlk w F h1 h2 h3
          have HOp : Hid (Value.bool false = Value.bool s'.op.isSome) := by show _ = _; rw [hop]; rfl
          clear hlk hov hop HT
          dsimp only [opV, trV, Option.getD_none, Option.isSome_none, Option.getD_some, Option.isSome_some, Q23.tz]
          have HT3 : Hid (Oq.S1 (At R0) R0 W (w12.alloc (.cells #[.int .i64 0, .int .i64 0, .int .i64 0, .int .i64 0, .int .i64 0, .int .i64 0] 36)) p s' gO 36 (trA o') KK) := hq.on (HI.out R0) ((Below.refl _ _).alloc (Nat.le_refl _) _)
          have HZ : Hid (RowT 36 (w12.alloc (.cells #[.int .i64 0, .int .i64 0, .int .i64 0, .int .i64 0, .int .i64 0, .int .i64 0] 36)) w12.heap.size #[.int .i64 0, .int .i64 0, .int .i64 0, .int .i64 0, .int .i64 0, .int .i64 0]) := RowT.new _ _ _
          clear hq
          go_upto_region 37 with fail
          generalize w12.alloc (.cells #[.int .i64 0, .int .i64 0, .int .i64 0, .int .i64 0, .int .i64 0, .int .i64 0] 36) = w13 at HT3 HZ ⊢
          generalize w12.heap.size = gz at HZ ⊢
          have HRo : Hid (RowT 36 w13 gO (trA o')) := HT3.out.row
          have z0 := HZ.out.c 0 _ rfl
          have r0 := HRo.out.c 0 _ rfl
          have z1 := HZ.out.c 1 _ rfl
          have r1 := HRo.out.c 1 _ rfl
          have z2 := HZ.out.c 2 _ rfl
          have r2 := HRo.out.c 2 _ rfl
          have z3 := HZ.out.c 3 _ rfl
          have r3 := HRo.out.c 3 _ rfl
          have z4 := HZ.out.c 4 _ rfl
          have r4 := HRo.out.c 4 _ rfl
          have z5 := HZ.out.c 5 _ rfl
          have r5 := HRo.out.c 5 _ rfl
          go_wp2_with fail
          refine (HT3.out.look (HI.out R0) (fun F hF => HLk.out _ F HT3.out.bel HT3.out.r0 hF)).mono ?_
          rintro e w14 ⟨rfl, hq⟩
          have HT4 : Hid (Oq.S1 (At R0) R0 W w14 p s' gO 36 (trA o') KK) := hq
          have r5' := hq.row.c 5 _ rfl
          clear hq HT3 HZ HRo z0 z1 z2 z3 z4 z5 r0 r1 r2 r3 r4 r5 HLk
          go_wp2_with fail
          go_roundw
          case rel => exact ⟨i + 1, s', o', by omega, by simp, rfl, rfl, HOp.out, HT4, HG⟩
          case measure => simp only [intOf]; omega
        | some t =>
          rw [hop] at h13
          subst h13
          have heq : t = o' := HG.out.2.1 t hop
          subst heq
          have hov : Q23.over s' at_ = decide (t.til < at_) := by unfold Q23.over; rw [hop]
          obtain ⟨t0, t1, t2, t3, t4, t5⟩ := t
          dsimp only at hov
          have hlk := fun (w : World) F (hb : Below W.heap.size W w) (hr : Oq.Rows R0 w) (hF : At R0 w p F s') => HS.out.over R0 w p F s' at_ (HQ.out _ hb) hr HWa.out hF
          rw [hov] at hlk
          have HLk : Hid (∀ (w : World) F, Below W.heap.size W w → Oq.Rows R0 w → At R0 w p F s' → Ob.Looks Tryd.prog 17 #[Ob.ptr p, .int .i64 at_] w (.bool (decide (t5 < at_)))) := fun w F h1 h2 h3 => hlk w F h1 h2 h3
          have HOp : Hid (Value.bool true = Value.bool s'.op.isSome) := by show _ = _; rw [hop]; rfl
          clear hlk hov hop HT
          dsimp only [opV, trV, Option.getD_none, Option.isSome_none, Option.getD_some, Option.isSome_some, Q23.tz]
          have HT3 : Hid (Oq.S1 (At R0) R0 W (w12.alloc (.cells #[.int .i64 t0, .int .i64 t1, .int .i64 t2, .int .i64 t3, .int .i64 t4, .int .i64 t5] 36)) p s' gO 36 (trA ⟨t0, t1, t2, t3, t4, t5⟩) KK) := hq.on (HI.out R0) ((Below.refl _ _).alloc (Nat.le_refl _) _)
          have HZ : Hid (RowT 36 (w12.alloc (.cells #[.int .i64 t0, .int .i64 t1, .int .i64 t2, .int .i64 t3, .int .i64 t4, .int .i64 t5] 36)) w12.heap.size #[.int .i64 t0, .int .i64 t1, .int .i64 t2, .int .i64 t3, .int .i64 t4, .int .i64 t5]) := RowT.new _ _ _
          clear hq
          go_upto_region 37 with fail
          generalize w12.alloc (.cells #[.int .i64 t0, .int .i64 t1, .int .i64 t2, .int .i64 t3, .int .i64 t4, .int .i64 t5] 36) = w13 at HT3 HZ ⊢
          generalize w12.heap.size = gz at HZ ⊢
          have HRo : Hid (RowT 36 w13 gO (trA ⟨t0, t1, t2, t3, t4, t5⟩)) := HT3.out.row
          have z0 := HZ.out.c 0 _ rfl
          have r0 := HRo.out.c 0 _ rfl
          have z1 := HZ.out.c 1 _ rfl
          have r1 := HRo.out.c 1 _ rfl
          have z2 := HZ.out.c 2 _ rfl
          have r2 := HRo.out.c 2 _ rfl
          have z3 := HZ.out.c 3 _ rfl
          have r3 := HRo.out.c 3 _ rfl
          have z4 := HZ.out.c 4 _ rfl
          have r4 := HRo.out.c 4 _ rfl
          have z5 := HZ.out.c 5 _ rfl
          have r5 := HRo.out.c 5 _ rfl
          go_wp2_with fail
          refine (HT3.out.look (HI.out R0) (fun F hF => HLk.out _ F HT3.out.bel HT3.out.r0 hF)).mono ?_
          rintro e w14 ⟨rfl, hq⟩
          have HT4 : Hid (Oq.S1 (At R0) R0 W w14 p s' gO 36 (trA ⟨t0, t1, t2, t3, t4, t5⟩) KK) := hq
          have r5' := hq.row.c 5 _ rfl
          clear hq HT3 HZ HRo z0 z1 z2 z3 z4 z5 r0 r1 r2 r3 r4 r5 HLk
          go_wp2_with fail
          go_roundw
          case rel => exact ⟨i + 1, s', ⟨t0, t1, t2, t3, t4, t5⟩, by omega, by simp, rfl, rfl, HOp.out, HT4, HG⟩
          case measure => simp only [intOf]; omega
    · have hge : ¬ ((i : Int) < (len2 : Int)) := by omega
      have HB : Hid (Below W.heap.size W wr) := HT.out.bel
      clear HT HG
      go_wp2
      go_ret
      exact ⟨rfl, HB.out⟩
end Go.Proofs.YtnbfnipdiffphaaDoor.schedPlays
