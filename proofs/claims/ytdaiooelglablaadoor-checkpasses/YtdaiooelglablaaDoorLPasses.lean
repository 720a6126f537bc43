/- CheckPasses: of what passes no two windows have a unit of a cycle together, each has room, and its message is there; for every matrix of few entries (others are let by); no condition. -/
import Derived.Test.YtdaiooelglablaaDoorL6
import Derived.Test.YtdaiooelglablaaDoorLn
import Derived.ProofKit
import Derived.OpenShut
namespace Go.Proofs.YtdaiooelglablaaDoor.checkPasses
open Go.ChangeShapes Go.WideShapes Go.ChangeAt Go.RowKit
set_option linter.unusedVariables false
variable {Q : World → Prop}
set_option maxRecDepth 100000 in
set_option maxHeartbeats 16000000 in
theorem walkA (hQ : ∀ w w', Q w → Below w.heap.size w w' → Q w') (S : CheckSpec Q) (m : Mx.M) (a : Ma) {W0 : World} (hm : MIn W0 m a) (hwf : Mx.Wf m) (W : World) (hw0 : W = W0) (hW : Q W) :
    Calls Tryd.prog 4 #[mV m a] W fun e w' => e = .returned (.bool true) ∧ Below W.heap.size W w' := by
  subst hw0
  have HQ : Hid (∀ w, Below W.heap.size W w → Q w) := fun w hb => hQ W w hW hb
  have HK : Hid (∀ w, Below W.heap.size W w → Calls Tryd.prog 9 #[] w fun e w' => e = .returned (.bool true) ∧ Below w.heap.size w w') := fun w hb => known14_any hQ S w (HQ.out _ hb)
  have HX : Hid (Bx W (W.alloc (.cells (mCs m a) 27)) W.heap.size m a) := Bx.mk' hm
  have HWf : Hid (Mx.Wf m) := hwf
  clear hm hwf hQ hW
  go_enter Tryd.func4, Tryd.ntmps4
  go_wp2_with fail
  refine (HK.out _ HX.out.below).mono ?_
  rintro e w1 ⟨rfl, hb⟩
  replace HX : Hid (Bx W w1 W.heap.size m a) := HX.out.on hb
  clear hb HK
  obtain ⟨y0, y1, y2, y3, y4, y5, y6, y7, y8, y9, y10⟩ := HX.out.row.mat
  go_wp2_with fail
  refine (few14_any w1 m a).mono ?_
  rintro e w2 ⟨rfl, hb⟩
  replace HX : Hid (Bx W w2 W.heap.size m a) := HX.out.on hb
  clear y0 y1 y10 y2 y3 y4 y5 y6 y7 y8 y9
  clear hb
  cases hfw : Mx.few m
  · go_wp2
    go_ret
    exact ⟨rfl, HX.out.below⟩
  have HS : Hid (Mx.Small m) := Mx.few_small hfw
  obtain ⟨y0, y1, y2, y3, y4, y5, y6, y7, y8, y9, y10⟩ := HX.out.row.mat
  go_wp2_with fail
  refine (S.check w2 m a (HQ.out _ HX.out.below) HX.out.mem HS.out HWf.out).mono ?_
  rintro e w3 ⟨rfl, hb⟩
  replace HX : Hid (Bx W w3 W.heap.size m a) := HX.out.on hb
  clear y0 y1 y10 y2 y3 y4 y5 y6 y7 y8 y9
  clear hb
  by_cases e0 : (Lq.check m).2 = 0
  rotate_left
  · have e1 : ((Lq.check m).2 == 0) = false := beq_eq_false_iff_ne.2 e0
    generalize (Lq.check m).1 = C1 at *
    generalize (Lq.check m).2 = C2 at *
    go_wp2
    go_ret
    exact ⟨rfl, HX.out.below⟩
  have HP : Hid (Lq.Passes m) := Lq.passes_of e0
  rw [e0]
  generalize (Lq.check m).1 = C1 at *
  clear e0 hfw
  obtain ⟨cy1, cy8, ln1, ln2, ms1, _⟩ := Lq.cyc_of HP.out.is
  have HSt : Hid (∀ w', Bx W w' W.heap.size m a → Calls Tryd.prog 17 #[mV m a] w' fun e w'' => e = .returned (.int .i64 (Lq.step m)) ∧ Below w'.heap.size w' w'') := fun w' h => S.step w' m a (HQ.out _ h.below) h.mem HS.out HWf.out
  have HWx : Hid (∀ (i : Nat) x, m.windows[i]? = some x → Lq.Wx m i x) := fun i x h => Lq.wx_of HP.out h
  have hroom := HP.out.room
  have HG : Hid (∀ i, i < m.windows.length → ∃ x, m.windows[i]? = some x) := fun i hi => ⟨_, List.getElem?_eq_getElem hi⟩
  have HGm : Hid (∀ (k : Nat) y, m.messages[k]? = some y → k < m.messages.length) := fun k y hk => (List.getElem?_eq_some_iff.1 hk).1
  have hn3 : m.windows.length ≤ 1000 := HS.out.c
  have hn2 : m.messages.length ≤ 1000 := HS.out.b
  have hn1 : m.masters.length ≤ 1000 := HS.out.a
  have hstb : 0 ≤ Lq.step m := by
    unfold Lq.step
    have := Lq.units_bound14 (u := m.unit) (b := 140)
    have := Lq.cyc_of HP.out.is
    split <;> omega
  generalize hST : Lq.step m = ST at *
  have HST : Hid (Lq.step m = ST) := hST
  clear hST
  go_wp2_with fail
  go_loopw [5] (fun vc wr => ∃ c : Nat, (c : Int) ≤ m.cycles ∧ vc = .int .i64 (c : Int) ∧ Hid (Bx W wr W.heap.size m a)) (fun vc _ => m.cycles.toNat - (intOf vc).toNat)
  case atStart => exact ⟨0, by omega, rfl, HX⟩
  case round =>
    clear HX
    obtain ⟨c, hc, rfl, HX⟩ := hrel
    obtain ⟨_, _, y2, _, _, _, _, _, _, _, _⟩ := HX.out.row.mat
    by_cases hlt : (c : Int) < m.cycles
    · go_wp2_with fail
      clear y2
      go_loopw [6, 7] (fun vl vi wr => ∃ (i : Nat) (L : Int), i ≤ m.windows.length ∧ vi = .int .i64 (i : Int) ∧ vl = .int .i64 L ∧ 0 ≤ L ∧ L ≤ m.length ∧ Hid (Bx W wr W.heap.size m a)) (fun _ vi _ => m.windows.length - (intOf vi).toNat)
      case atStart => exact ⟨0, 0, Nat.zero_le _, rfl, rfl, by omega, by omega, HX⟩
      case round =>
        clear HX
        obtain ⟨i, LL, hi, rfl, rfl, hL0, hL1, HX⟩ := hrel
        obtain ⟨_, _, _, y3, _, _, _, _, _, _, y10⟩ := HX.out.row.mat
        by_cases hlt2 : i < m.windows.length
        · obtain ⟨x, hx⟩ := HG.out i hlt2
          obtain ⟨g0, o0, hs, hg, q0, q1, q2, q3, q4, q5⟩ := HX.out.mem.window hx
          have HV : Hid (RowT 40 (wr.alloc (.cells #[.int .i64 x.kind, .int .i64 x.start, .int .i64 x.fin, .int .i64 x.cycle, .int .i64 x.rep, .int .i64 x.msg] 40)) wr.heap.size #[.int .i64 x.kind, .int .i64 x.start, .int .i64 x.fin, .int .i64 x.cycle, .int .i64 x.rep, .int .i64 x.msg]) := RowT.new _ _ _
          replace HX : Hid (Bx W (wr.alloc (.cells #[.int .i64 x.kind, .int .i64 x.start, .int .i64 x.fin, .int .i64 x.cycle, .int .i64 x.rep, .int .i64 x.msg] 40)) W.heap.size m a) := HX.out.al _
          rw [hs] at y10
          go_upto_region 16 with fail
          generalize wr.alloc (.cells #[.int .i64 x.kind, .int .i64 x.start, .int .i64 x.fin, .int .i64 x.cycle, .int .i64 x.rep, .int .i64 x.msg] 40) = wv at HX HV ⊢
          generalize wr.heap.size = qv at HV ⊢
          clear y3 y10 q0 q1 q2 q3 q4 q5 hs hg
          have hW := HWx.out i x hx
          obtain ⟨kn1, kn2⟩ := hW.kind
          obtain ⟨s1, s2, s3⟩ := hW.st
          obtain ⟨r1, r2, r3⟩ := hW.rep
          obtain ⟨c1, c2⟩ := hW.cy
          obtain ⟨m1, m2⟩ := hW.msg
          have t1 := hW.t1
          rw [HST.out] at t1
          have n0 : x.rep ≠ 0 := by omega
          have HCV : Hid (∀ w', Below wv.heap.size wv w' → w'.cell? ⟨qv, 0, none⟩ = some (.int .i64 x.kind) ∧ w'.cell? ⟨qv, 1, none⟩ = some (.int .i64 x.start) ∧ w'.cell? ⟨qv, 2, none⟩ = some (.int .i64 x.fin) ∧ w'.cell? ⟨qv, 3, none⟩ = some (.int .i64 x.cycle) ∧ w'.cell? ⟨qv, 4, none⟩ = some (.int .i64 x.rep) ∧ w'.cell? ⟨qv, 5, none⟩ = some (.int .i64 x.msg)) := fun w' hb => ⟨(HV.out.on hb).c 0 _ rfl, (HV.out.on hb).c 1 _ rfl, (HV.out.on hb).c 2 _ rfl, (HV.out.on hb).c 3 _ rfl, (HV.out.on hb).c 4 _ rfl, (HV.out.on hb).c 5 _ rfl⟩
          have hcm := Lq.comes_mod (c := (c : Int)) (by omega) c1 c2
          have htm : (c : Int).tmod x.rep = (c : Int) % x.rep := Int.tmod_eq_emod_of_nonneg (by omega)
          have hWX : Hid (Lq.Wx m i x) := hW
          have HXi : Hid (m.windows[i]? = some x) := hx
          clear hW hx
          cases hcc : ((c : Int) % x.rep == x.cycle)
          · have hcc2 : ((c : Int).tmod x.rep == x.cycle) = false := by rw [htm]; exact hcc
            refine Lw.wp_region_quiet_below (by kernel_rfl) (by kernel_rfl) ?_
            repeat (first
              | go_big_quiet_skip
              | (go_big_quiet_want; go_big_quiet_op; go_big_quiet_on)
              | (go_big_quiet_want; go_big_quiet_op; apply Exists.intro; refine ⟨fun _ hb' => ?_, ?_⟩; (first
                | exact Lw.val_rfl _
                | (simp [go_sem, (HCV.out _ hb').2.2.2.1]; rfl)
                | (simp [go_sem, (HCV.out _ hb').2.2.2.2.1]; rfl)); go_big_quiet_on))
            refine wpQuiet_nil ?_
            intro w5 hb5
            replace HX : Hid (Bx W w5 W.heap.size m a) := HX.out.on hb5
            clear hb5 HCV HV
            go_wp2_with fail
            go_roundw
            case rel => exact ⟨i + 1, LL, by omega, rfl, rfl, by omega, by omega, HX⟩
            case measure => simp only [intOf]; omega
          · have hcc2 : ((c : Int).tmod x.rep == x.cycle) = true := by rw [htm]; exact hcc
            have hcx : Mx.comes x.cycle x.rep (c : Int) = true := by rw [hcm]; exact hcc
            refine Lw.wp_region_quiet_below (by kernel_rfl) (by kernel_rfl) ?_
            repeat (first
              | go_big_quiet_skip
              | (go_big_quiet_want; go_big_quiet_op; go_big_quiet_on)
              | (go_big_quiet_want; go_big_quiet_op; apply Exists.intro; refine ⟨fun _ hb' => ?_, ?_⟩; (first
                | exact Lw.val_rfl _
                | (simp [go_sem, (HCV.out _ hb').2.2.2.1]; rfl)
                | (simp [go_sem, (HCV.out _ hb').2.2.2.2.1]; rfl)); go_big_quiet_on))
            refine wpQuiet_nil ?_
            intro w5 hb5
            replace HX : Hid (Bx W w5 W.heap.size m a) := HX.out.on hb5
            replace HV : Hid (RowT 40 w5 qv #[.int .i64 x.kind, .int .i64 x.start, .int .i64 x.fin, .int .i64 x.cycle, .int .i64 x.rep, .int .i64 x.msg]) := HV.out.on hb5
            clear hb5 HCV hcm htm
            go_upto_region 17 with fail
            go_cut [96] from 97 to 127 (fun v wx => v = .bool false ∧ Hid (Bx W wx W.heap.size m a) ∧ Hid (RowT 40 wx qv #[.int .i64 x.kind, .int .i64 x.start, .int .i64 x.fin, .int .i64 x.cycle, .int .i64 x.rep, .int .i64 x.msg]))
            case first =>
              have HR : Hid (∀ w', Below w5.heap.size w5 w' → RowT 27 w' W.heap.size (mCs m a)) := fun w' hb => (HX.out.on hb).row
              have HCV : Hid (∀ w', Below w5.heap.size w5 w' → w'.cell? ⟨qv, 0, none⟩ = some (.int .i64 x.kind) ∧ w'.cell? ⟨qv, 1, none⟩ = some (.int .i64 x.start) ∧ w'.cell? ⟨qv, 2, none⟩ = some (.int .i64 x.fin) ∧ w'.cell? ⟨qv, 5, none⟩ = some (.int .i64 x.msg)) := fun w' hb => ⟨(HV.out.on hb).c 0 _ rfl, (HV.out.on hb).c 1 _ rfl, (HV.out.on hb).c 2 _ rfl, (HV.out.on hb).c 5 _ rfl⟩
              have H5 : Hid (∀ w', Below w5.heap.size w5 w' → Calls Tryd.prog 17 #[mV m a] w' fun e w'' => e = .returned (.int .i64 ST) ∧ Below w'.heap.size w' w'') := fun w' hb => HSt.out w' (HX.out.on hb)
              have a1 : decide (x.start < ST) = false := decide_eq_false (by omega)
              have a2 : decide (m.length < x.fin) = false := decide_eq_false (by omega)
              by_cases k3 : x.kind = 3
              · have k3b : (x.kind == 3) = true := beq_iff_eq.2 k3
                have k3c : (x.kind != 3) = false := by rw [bne, k3b]; rfl
                have k1b : (x.kind == 1) = false := beq_eq_false_iff_ne.2 (by omega)
                clear k3 hcc hcc2 hcx
                refine Lw.wp_region_quiet_below (by kernel_rfl) (by kernel_rfl) ?_
                repeat (first
                  | go_big_quiet_skip
                  | (go_big_quiet_want; go_big_quiet_op; go_big_quiet_on)
                  | (go_big_quiet_want; go_big_quiet_op; apply Exists.intro; refine ⟨fun _ hb' => ?_, ?_⟩; (first
                    | exact Lw.val_rfl _
                    | (go_at_call 17; exact Lw.calls_below hb' (H5.out _ hb'))
                    | (simp [go_sem, (HCV.out _ hb').1]; rfl)
                    | (simp [go_sem, (HCV.out _ hb').2.1]; rfl)
                    | (simp [go_sem, (HCV.out _ hb').2.2.1]; rfl)
                    | (simp [go_sem, (HCV.out _ hb').2.2.2]; rfl)
                    | (simp [go_sem, (HR.out _ hb').mat.1, (HR.out _ hb').mat.2.1, (HR.out _ hb').mat.2.2.1, (HR.out _ hb').mat.2.2.2.1, (HR.out _ hb').mat.2.2.2.2.1, (HR.out _ hb').mat.2.2.2.2.2.1, (HR.out _ hb').mat.2.2.2.2.2.2.1, (HR.out _ hb').mat.2.2.2.2.2.2.2.1, (HR.out _ hb').mat.2.2.2.2.2.2.2.2.1, (HR.out _ hb').mat.2.2.2.2.2.2.2.2.2.1, (HR.out _ hb').mat.2.2.2.2.2.2.2.2.2.2]; rfl)); go_big_quiet_on))
                refine wpQuiet_nil ?_
                intro w6 hb6
                have HX6 : Hid (Bx W w6 W.heap.size m a) := HX.out.on hb6
                have HV6 : Hid (RowT 40 w6 qv #[.int .i64 x.kind, .int .i64 x.start, .int .i64 x.fin, .int .i64 x.cycle, .int .i64 x.rep, .int .i64 x.msg]) := HV.out.on hb6
                clear hb6
                go_wp2_with fail
                go_meet
                case rel => exact ⟨rfl, HX6, HV6⟩
              · have k3b : (x.kind == 3) = false := beq_eq_false_iff_ne.2 k3
                have k3c : (x.kind != 3) = true := by rw [bne, k3b]; rfl
                have a3 : decide (x.fin - x.start < ST) = false := decide_eq_false (by have := hWX.out.t2 k3; have := HST.out; omega)
                by_cases k1 : x.kind = 1
                · have k1b : (x.kind == 1) = true := beq_iff_eq.2 k1
                  obtain ⟨mk, yy, hme, hmy, hev⟩ := hWX.out.ms k1
                  have hml := HGm.out mk yy hmy
                  have a4 : decide ((m.messages.length : Int) ≤ x.msg) = false := decide_eq_false (by omega)
                  obtain ⟨g1, o1, hs2, _⟩ := HX.out.mem.message hmy
                  have HCM : Hid (∀ w', Below w5.heap.size w5 w' → w'.cell? ⟨W.heap.size, 9, none⟩ = some (.slice (some ⟨g1, o1, none⟩) m.messages.length a.c2) ∧ w'.cell? ⟨g1, o1 + mk * 3 + 2, none⟩ = some (.bool false)) := fun w' hb => by
                    have hX := HX.out.on hb
                    obtain ⟨g2, o2, hs3, _, _, _, hc2⟩ := hX.mem.message hmy
                    rw [hs2] at hs3
                    injection hs3 with hs3
                    injection hs3 with e1 e2
                    subst e1 e2
                    have h9 := hX.row.mat.2.2.2.2.2.2.2.2.2.1
                    rw [hs2] at h9
                    rw [hev] at hc2
                    exact ⟨h9, hc2⟩
                  rw [hme] at HCV a4
                  have a4n : decide (m.messages.length ≤ mk) = false := decide_eq_false (by omega)
                  have a4b : mk < m.messages.length := hml
                  clear k3 k1 hcc hcc2 hcx hme hmy hs2 hev
                  refine Lw.wp_region_quiet_below (by kernel_rfl) (by kernel_rfl) ?_
                  repeat (first
                    | go_big_quiet_skip
                    | (go_big_quiet_want; go_big_quiet_op; go_big_quiet_on)
                    | (go_big_quiet_want; go_big_quiet_op; apply Exists.intro; refine ⟨fun _ hb' => ?_, ?_⟩; (first
                      | exact Lw.val_rfl _
                      | (go_at_call 17; exact Lw.calls_below hb' (H5.out _ hb'))
                      | (simp [go_sem, (HCV.out _ hb').1]; rfl)
                      | (simp [go_sem, (HCV.out _ hb').2.1]; rfl)
                      | (simp [go_sem, (HCV.out _ hb').2.2.1]; rfl)
                      | (simp [go_sem, (HCV.out _ hb').2.2.2]; rfl)
                      | (simp [go_sem, (HCM.out _ hb').1]; rfl)
                      | (simp [go_sem, (HCM.out _ hb').2]; rfl)
                      | (simp [go_sem, (HR.out _ hb').mat.1, (HR.out _ hb').mat.2.1, (HR.out _ hb').mat.2.2.1, (HR.out _ hb').mat.2.2.2.1, (HR.out _ hb').mat.2.2.2.2.1, (HR.out _ hb').mat.2.2.2.2.2.1, (HR.out _ hb').mat.2.2.2.2.2.2.1, (HR.out _ hb').mat.2.2.2.2.2.2.2.1, (HR.out _ hb').mat.2.2.2.2.2.2.2.2.1, (HR.out _ hb').mat.2.2.2.2.2.2.2.2.2.1, (HR.out _ hb').mat.2.2.2.2.2.2.2.2.2.2]; rfl)); go_big_quiet_on))
                  refine wpQuiet_nil ?_
                  intro w6 hb6
                  have HX6 : Hid (Bx W w6 W.heap.size m a) := HX.out.on hb6
                  have HV6 : Hid (RowT 40 w6 qv #[.int .i64 x.kind, .int .i64 x.start, .int .i64 x.fin, .int .i64 x.cycle, .int .i64 x.rep, .int .i64 x.msg]) := HV.out.on hb6
                  clear hb6
                  go_wp2_with fail
                  go_meet
                  case rel => exact ⟨rfl, HX6, HV6⟩
                · have k1b : (x.kind == 1) = false := beq_eq_false_iff_ne.2 k1
                  clear k3 k1 hcc hcc2 hcx
                  refine Lw.wp_region_quiet_below (by kernel_rfl) (by kernel_rfl) ?_
                  repeat (first
                    | go_big_quiet_skip
                    | (go_big_quiet_want; go_big_quiet_op; go_big_quiet_on)
                    | (go_big_quiet_want; go_big_quiet_op; apply Exists.intro; refine ⟨fun _ hb' => ?_, ?_⟩; (first
                      | exact Lw.val_rfl _
                      | (go_at_call 17; exact Lw.calls_below hb' (H5.out _ hb'))
                      | (simp [go_sem, (HCV.out _ hb').1]; rfl)
                      | (simp [go_sem, (HCV.out _ hb').2.1]; rfl)
                      | (simp [go_sem, (HCV.out _ hb').2.2.1]; rfl)
                      | (simp [go_sem, (HCV.out _ hb').2.2.2]; rfl)
                      | (simp [go_sem, (HR.out _ hb').mat.1, (HR.out _ hb').mat.2.1, (HR.out _ hb').mat.2.2.1, (HR.out _ hb').mat.2.2.2.1, (HR.out _ hb').mat.2.2.2.2.1, (HR.out _ hb').mat.2.2.2.2.2.1, (HR.out _ hb').mat.2.2.2.2.2.2.1, (HR.out _ hb').mat.2.2.2.2.2.2.2.1, (HR.out _ hb').mat.2.2.2.2.2.2.2.2.1, (HR.out _ hb').mat.2.2.2.2.2.2.2.2.2.1, (HR.out _ hb').mat.2.2.2.2.2.2.2.2.2.2]; rfl)); go_big_quiet_on))
                  refine wpQuiet_nil ?_
                  intro w6 hb6
                  have HX6 : Hid (Bx W w6 W.heap.size m a) := HX.out.on hb6
                  have HV6 : Hid (RowT 40 w6 qv #[.int .i64 x.kind, .int .i64 x.start, .int .i64 x.fin, .int .i64 x.cycle, .int .i64 x.rep, .int .i64 x.msg]) := HV.out.on hb6
                  clear hb6
                  go_wp2_with fail
                  go_meet
                  case rel => exact ⟨rfl, HX6, HV6⟩
            case rest =>
              obtain ⟨rfl, HX2, HV2⟩ := hcut
              clear HX HV
              go_wp2_with fail
              go_loopw [9] (fun vk wr => ∃ k : Nat, k ≤ i ∧ vk = .int .i64 (k : Int) ∧ Hid (Bx W wr W.heap.size m a) ∧ Hid (RowT 40 wr qv #[.int .i64 x.kind, .int .i64 x.start, .int .i64 x.fin, .int .i64 x.cycle, .int .i64 x.rep, .int .i64 x.msg])) (fun vk _ => i - (intOf vk).toNat)
              case atStart => exact ⟨0, Nat.zero_le _, rfl, HX2, HV2⟩
              case round =>
                clear HX2 HV2
                obtain ⟨k, hk, rfl, HX, HV⟩ := hrel
                by_cases hlt3 : k < i
                · obtain ⟨y, hy⟩ := HG.out k (by omega)
                  obtain ⟨g0, o0, hs, hg, q0, q1, q2, q3, q4, q5⟩ := HX.out.mem.window hy
                  obtain ⟨_, _, _, _, _, _, _, _, _, _, y10⟩ := HX.out.row.mat
                  have al : Below wr.heap.size wr (wr.alloc (.cells #[.int .i64 y.kind, .int .i64 y.start, .int .i64 y.fin, .int .i64 y.cycle, .int .i64 y.rep, .int .i64 y.msg] 40)) := (Below.refl _ _).alloc (Nat.le_refl _) _
                  have HU : Hid (RowT 40 (wr.alloc (.cells #[.int .i64 y.kind, .int .i64 y.start, .int .i64 y.fin, .int .i64 y.cycle, .int .i64 y.rep, .int .i64 y.msg] 40)) wr.heap.size #[.int .i64 y.kind, .int .i64 y.start, .int .i64 y.fin, .int .i64 y.cycle, .int .i64 y.rep, .int .i64 y.msg]) := RowT.new _ _ _
                  replace HX : Hid (Bx W (wr.alloc (.cells #[.int .i64 y.kind, .int .i64 y.start, .int .i64 y.fin, .int .i64 y.cycle, .int .i64 y.rep, .int .i64 y.msg] 40)) W.heap.size m a) := HX.out.al _
                  replace HV : Hid (RowT 40 (wr.alloc (.cells #[.int .i64 y.kind, .int .i64 y.start, .int .i64 y.fin, .int .i64 y.cycle, .int .i64 y.rep, .int .i64 y.msg] 40)) qv #[.int .i64 x.kind, .int .i64 x.start, .int .i64 x.fin, .int .i64 x.cycle, .int .i64 x.rep, .int .i64 x.msg]) := HV.out.on al
                  clear al
                  rw [hs] at y10
                  go_upto_region 23 with fail
                  generalize wr.alloc (.cells #[.int .i64 y.kind, .int .i64 y.start, .int .i64 y.fin, .int .i64 y.cycle, .int .i64 y.rep, .int .i64 y.msg] 40) = wu at HX HV HU ⊢
                  generalize wr.heap.size = qu at HU ⊢
                  clear y10 q0 q1 q2 q3 q4 q5 hs hg
                  have hY := HWx.out k y hy
                  obtain ⟨d1, d2, d3⟩ := hY.rep
                  obtain ⟨d4, d5⟩ := hY.cy
                  have n1 : y.rep ≠ 0 := by omega
                  have hcm := Lq.comes_mod (c := (c : Int)) (by omega) d4 d5
                  have htm : (c : Int).tmod y.rep = (c : Int) % y.rep := Int.tmod_eq_emod_of_nonneg (by omega)
                  have HAp : Hid (Mx.comes y.cycle y.rep (c : Int) = true → y.start < x.fin → x.start < y.fin → False) := fun h1 => hWX.out.apart hlt3 hy (by omega) hlt h1 hcx
                  have HCU : Hid (∀ w', Below wu.heap.size wu w' → (w'.cell? ⟨qu, 1, none⟩ = some (.int .i64 y.start) ∧ w'.cell? ⟨qu, 2, none⟩ = some (.int .i64 y.fin) ∧ w'.cell? ⟨qu, 3, none⟩ = some (.int .i64 y.cycle) ∧ w'.cell? ⟨qu, 4, none⟩ = some (.int .i64 y.rep)) ∧ w'.cell? ⟨qv, 1, none⟩ = some (.int .i64 x.start) ∧ w'.cell? ⟨qv, 2, none⟩ = some (.int .i64 x.fin)) := fun w' hb => ⟨⟨(HU.out.on hb).c 1 _ rfl, (HU.out.on hb).c 2 _ rfl, (HU.out.on hb).c 3 _ rfl, (HU.out.on hb).c 4 _ rfl⟩, (HV.out.on hb).c 1 _ rfl, (HV.out.on hb).c 2 _ rfl⟩
                  clear hY hy hcc hcc2
                  cases hcd : ((c : Int) % y.rep == y.cycle)
                  · have hcd2 : ((c : Int).tmod y.rep == y.cycle) = false := by rw [htm]; exact hcd
                    clear hcm htm
                    refine Lw.wp_region_quiet_below (by kernel_rfl) (by kernel_rfl) ?_
                    repeat (first
                      | go_big_quiet_skip
                      | (go_big_quiet_want; go_big_quiet_op; go_big_quiet_on)
                      | (go_big_quiet_want; go_big_quiet_op; apply Exists.intro; refine ⟨fun _ hb' => ?_, ?_⟩; (first
                        | exact Lw.val_rfl _
                        | (simp [go_sem, (HCU.out _ hb').1.1]; rfl)
                        | (simp [go_sem, (HCU.out _ hb').1.2.1]; rfl)
                        | (simp [go_sem, (HCU.out _ hb').1.2.2.1]; rfl)
                        | (simp [go_sem, (HCU.out _ hb').1.2.2.2]; rfl)
                        | (simp [go_sem, (HCU.out _ hb').2.1]; rfl)
                        | (simp [go_sem, (HCU.out _ hb').2.2]; rfl)); go_big_quiet_on))
                    refine wpQuiet_nil ?_
                    intro w6 hb6
                    replace HX : Hid (Bx W w6 W.heap.size m a) := HX.out.on hb6
                    replace HV : Hid (RowT 40 w6 qv #[.int .i64 x.kind, .int .i64 x.start, .int .i64 x.fin, .int .i64 x.cycle, .int .i64 x.rep, .int .i64 x.msg]) := HV.out.on hb6
                    clear hb6 HCU HU
                    go_wp2_with fail
                    go_roundw
                    case rel => exact ⟨k + 1, by omega, rfl, HX, HV⟩
                    case measure => simp only [intOf]; omega
                  · have hcd2 : ((c : Int).tmod y.rep == y.cycle) = true := by rw [htm]; exact hcd
                    have hA := HAp.out (by rw [hcm]; exact hcd)
                    clear hcm htm
                    by_cases b1 : y.start < x.fin
                    · have b1d : decide (y.start < x.fin) = true := decide_eq_true b1
                      have b2d : decide (x.start < y.fin) = false := decide_eq_false (fun h => hA b1 h)
                      clear hA b1
                      refine Lw.wp_region_quiet_below (by kernel_rfl) (by kernel_rfl) ?_
                      repeat (first
                        | go_big_quiet_skip
                        | (go_big_quiet_want; go_big_quiet_op; go_big_quiet_on)
                        | (go_big_quiet_want; go_big_quiet_op; apply Exists.intro; refine ⟨fun _ hb' => ?_, ?_⟩; (first
                          | exact Lw.val_rfl _
                          | (simp [go_sem, (HCU.out _ hb').1.1]; rfl)
                          | (simp [go_sem, (HCU.out _ hb').1.2.1]; rfl)
                          | (simp [go_sem, (HCU.out _ hb').1.2.2.1]; rfl)
                          | (simp [go_sem, (HCU.out _ hb').1.2.2.2]; rfl)
                          | (simp [go_sem, (HCU.out _ hb').2.1]; rfl)
                          | (simp [go_sem, (HCU.out _ hb').2.2]; rfl)); go_big_quiet_on))
                      refine wpQuiet_nil ?_
                      intro w6 hb6
                      replace HX : Hid (Bx W w6 W.heap.size m a) := HX.out.on hb6
                      replace HV : Hid (RowT 40 w6 qv #[.int .i64 x.kind, .int .i64 x.start, .int .i64 x.fin, .int .i64 x.cycle, .int .i64 x.rep, .int .i64 x.msg]) := HV.out.on hb6
                      clear hb6 HCU HU
                      go_wp2_with fail
                      go_roundw
                      case rel => exact ⟨k + 1, by omega, rfl, HX, HV⟩
                      case measure => simp only [intOf]; omega
                    · have b1d : decide (y.start < x.fin) = false := decide_eq_false b1
                      clear hA b1
                      refine Lw.wp_region_quiet_below (by kernel_rfl) (by kernel_rfl) ?_
                      repeat (first
                        | go_big_quiet_skip
                        | (go_big_quiet_want; go_big_quiet_op; go_big_quiet_on)
                        | (go_big_quiet_want; go_big_quiet_op; apply Exists.intro; refine ⟨fun _ hb' => ?_, ?_⟩; (first
                          | exact Lw.val_rfl _
                          | (simp [go_sem, (HCU.out _ hb').1.1]; rfl)
                          | (simp [go_sem, (HCU.out _ hb').1.2.1]; rfl)
                          | (simp [go_sem, (HCU.out _ hb').1.2.2.1]; rfl)
                          | (simp [go_sem, (HCU.out _ hb').1.2.2.2]; rfl)
                          | (simp [go_sem, (HCU.out _ hb').2.1]; rfl)
                          | (simp [go_sem, (HCU.out _ hb').2.2]; rfl)); go_big_quiet_on))
                      refine wpQuiet_nil ?_
                      intro w6 hb6
                      replace HX : Hid (Bx W w6 W.heap.size m a) := HX.out.on hb6
                      replace HV : Hid (RowT 40 w6 qv #[.int .i64 x.kind, .int .i64 x.start, .int .i64 x.fin, .int .i64 x.cycle, .int .i64 x.rep, .int .i64 x.msg]) := HV.out.on hb6
                      clear hb6 HCU HU
                      go_wp2_with fail
                      go_roundw
                      case rel => exact ⟨k + 1, by omega, rfl, HX, HV⟩
                      case measure => simp only [intOf]; omega
                · obtain rfl : k = i := by omega
                  have v2 : wr.cell? ⟨qv, 2, none⟩ = some (.int .i64 x.fin) := HV.out.c 2 _ rfl
                  go_wp2_with fail
                  go_roundw
                  case rel => exact ⟨k + 1, max LL x.fin, by omega, rfl, (by first | rfl | simp), by omega, by omega, HX⟩
                  case measure => simp only [intOf]; omega
        · obtain rfl : i = m.windows.length := by omega
          go_wp2_with fail
          go_roundw
          case rel => exact ⟨c + 1, by omega, rfl, HX⟩
          case measure => simp only [intOf]; omega
    · clear y2
      have HR : Hid (∀ w', Below wr.heap.size wr w' → RowT 27 w' W.heap.size (mCs m a)) := fun w' hb => (HX.out.on hb).row
      have H5 : Hid (∀ w', Below wr.heap.size wr w' → Calls Tryd.prog 17 #[mV m a] w' fun e w'' => e = .returned (.int .i64 ST) ∧ Below w'.heap.size w' w'') := fun w' hb => HSt.out w' (HX.out.on hb)
      have a1 : decide ((1 : Int) ≤ (m.masters.length : Int)) = true := decide_eq_true (by omega)
      have a2 : decide (ST ≤ m.length) = true := decide_eq_true (by omega)
      have y2b := HX.out.row.mat.2.2.1
      go_upto_region 28 with fail
      clear y2b
      refine Lw.wp_region_quiet_below (by kernel_rfl) (by kernel_rfl) ?_
      repeat (first
        | go_big_quiet_skip
        | (go_big_quiet_want; go_big_quiet_op; go_big_quiet_on)
        | (go_big_quiet_want; go_big_quiet_op; apply Exists.intro; refine ⟨fun _ hb' => ?_, ?_⟩; (first
          | exact Lw.val_rfl _
          | (go_at_call 17; exact Lw.calls_below hb' (H5.out _ hb'))
          | (simp [go_sem, (HR.out _ hb').mat.1, (HR.out _ hb').mat.2.1, (HR.out _ hb').mat.2.2.1, (HR.out _ hb').mat.2.2.2.1, (HR.out _ hb').mat.2.2.2.2.1, (HR.out _ hb').mat.2.2.2.2.2.1, (HR.out _ hb').mat.2.2.2.2.2.2.1, (HR.out _ hb').mat.2.2.2.2.2.2.2.1, (HR.out _ hb').mat.2.2.2.2.2.2.2.2.1, (HR.out _ hb').mat.2.2.2.2.2.2.2.2.2.1, (HR.out _ hb').mat.2.2.2.2.2.2.2.2.2.2]; rfl)); go_big_quiet_on))
      refine wpQuiet_nil ?_
      intro w6 hb6
      replace HX : Hid (Bx W w6 W.heap.size m a) := HX.out.on hb6
      go_wp2
      go_ret
      exact ⟨by first | rfl | simp_all, HX.out.below⟩
end Go.Proofs.YtdaiooelglablaaDoor.checkPasses
