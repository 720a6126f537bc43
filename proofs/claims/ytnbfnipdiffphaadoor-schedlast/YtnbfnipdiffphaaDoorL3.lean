/- Layer 14: the document's window. -/
import Derived.Test.YtnbfnipdiffphaaDoorL1
import Derived.Test.YtnbfnipdiffphaaDoorL2
import Derived.Deep.RegionHeld3
import Derived.Deep.CutBlock
import Derived.WalkArith
import Derived.WalkSpells
namespace Go.Proofs.YtnbfnipdiffphaaDoor
open Go.RowKit Go.WideShapes
set_option linter.unusedVariables false
set_option maxRecDepth 100000 in
set_option maxHeartbeats 4000000 in
theorem rwindow_any (w : World) (m : Mx.M) (a : Ma) (i : Nat) (hm : MIn w m a) (hS : Mx.Small m) (hwf : Mx.Wf m) (hi : Mx.is m = true) (hlt : i < m.windows.length) : Calls Tryd.prog 31 #[mV m a, .int .i64 (i : Int)] w fun e w' => e = .returned (.int .i64 (Lq.eWin m i)) ∧ Below w.heap.size w w' := by
  have HX : Hid (Bx w (w.alloc (.cells (mCs m a) 27)) w.heap.size m a) := Bx.mk' hm
  obtain ⟨x, hx⟩ : ∃ x, m.windows[i]? = some x := ⟨_, List.getElem?_eq_getElem hlt⟩
  have hxw := (Pq.num_of hi).windows x (List.mem_of_getElem? hx)
  have hl := hS.c
  have hl2 := hS.b
  have y10 := HX.out.row.mat.2.2.2.2.2.2.2.2.2.2
  have y9 := HX.out.row.mat.2.2.2.2.2.2.2.2.2.1
  obtain ⟨gw, ow, hs, _, x0, x1, x2, x3, x4, x5⟩ := HX.out.mem.window hx
  rw [hs] at y10
  have ii : (i : Int) < (m.windows.length : Int) := by omega
  have i2 : (i : Int) ≤ 1000 := by omega
  have l2 : (m.messages.length : Int) ≤ 1000 := by omega
  have HSt : Hid (∀ w', MIn w' m a → Calls Tryd.prog 22 #[mV m a] w' fun e w'' => e = .returned (.int .i64 (Lq.step m)) ∧ Below w'.heap.size w' w'') := fun w' h => rstep_any w' m a h hS hwf
  have HMt : Hid (∀ w' (k : Nat), MIn w' m a → Calls Tryd.prog 40 #[mV m a, .int .i64 (k : Int), .int .i64 (i : Int)] w' fun e w'' => e = .returned (.bool (Lq.meet m (k : Int) (i : Int))) ∧ Below w'.heap.size w' w'') := fun w' k h => rmeet_any w' m a (k : Int) (i : Int) h hS hwf
  obtain ⟨R, hR⟩ : ∃ R, Lq.eWin m i = R := ⟨_, rfl⟩
  rw [hR]
  have HRe : Hid (R = if Lq.noMsg m x then 145 else if Lq.tight m x then 144 else if Lq.meets m i then 143 else 0) := by show R = _; rw [← hR, Lq.eWin, hx]
  show Calls _ _ #[.agg (mCs m a), _] _ _
  generalize mCs m a = cs at HX y10 y9 x0 x1 x2 x3 x4 x5 ⊢
  clear hm hS hwf hlt hR hs hl hl2
  go_enter Tryd.func31, Tryd.ntmps31
  go_upto_region 2 with fail
  have HX2 : Hid (Bx w ((w.alloc (.cells cs 27)).alloc (.cells #[.int .i64 x.kind, .int .i64 x.start, .int .i64 x.fin, .int .i64 x.cycle, .int .i64 x.rep, .int .i64 x.msg] 58)) w.heap.size m a) := HX.out.al _
  have HV : Hid (RowT 58 ((w.alloc (.cells cs 27)).alloc (.cells #[.int .i64 x.kind, .int .i64 x.start, .int .i64 x.fin, .int .i64 x.cycle, .int .i64 x.rep, .int .i64 x.msg] 58)) (w.heap.size + 1) (mC3 x).toArray) := by
    have := RowT.new 58 (w.alloc (.cells cs 27)) (mC3 x).toArray
    rwa [show (w.alloc (.cells cs 27)).heap.size = w.heap.size + 1 by simp] at this
  generalize (w.alloc (.cells cs 27)).alloc (.cells #[.int .i64 x.kind, .int .i64 x.start, .int .i64 x.fin, .int .i64 x.cycle, .int .i64 x.rep, .int .i64 x.msg] 58) = w2 at HX2 HV ⊢
  clear HX x0 x1 x2 x3 x4 x5 y9 y10
  have y9 := HX2.out.row.mat.2.2.2.2.2.2.2.2.2.1
  have v0 : w2.cell? ⟨w.heap.size + 1, 0, none⟩ = some (.int .i64 x.kind) := HV.out.c 0 _ rfl
  have v5 : w2.cell? ⟨w.heap.size + 1, 5, none⟩ = some (.int .i64 x.msg) := HV.out.c 5 _ rfl
  have HR : Hid (∀ w', Below w2.heap.size w2 w' → RowT 27 w' w.heap.size (mCs m a)) := fun w' hb => (HX2.out.on hb).row
  have HVr : Hid (∀ w', Below w2.heap.size w2 w' → w'.cell? ⟨w.heap.size + 1, 0, none⟩ = some (.int .i64 x.kind) ∧ w'.cell? ⟨w.heap.size + 1, 1, none⟩ = some (.int .i64 x.start) ∧ w'.cell? ⟨w.heap.size + 1, 2, none⟩ = some (.int .i64 x.fin)) := fun w' hb => ⟨(HV.out.on hb).c 0 _ rfl, (HV.out.on hb).c 1 _ rfl, (HV.out.on hb).c 2 _ rfl⟩
  go_cut [31] from 12 (fun v wx => v = .bool (Lq.noMsg m x) ∧ wx = w2)
  case first =>
    cases hk : (x.kind == 1)
    · have hN : Lq.noMsg m x = false := by unfold Lq.noMsg; rw [hk]; rfl
      go_wp2_with fail
      go_meet
      case rel => exact ⟨by rw [hN], rfl⟩
    · obtain ⟨k, hkm⟩ := Int.eq_ofNat_of_zero_le hxw.2.2.2.2.2.1
      rw [hkm] at v5
      by_cases hkl : k < m.messages.length
      · obtain ⟨y, hy⟩ : ∃ y, m.messages[k]? = some y := ⟨_, List.getElem?_eq_getElem hkl⟩
        obtain ⟨g, o, hs, _, _, _, z2⟩ := HX2.out.mem.message hy
        rw [hs] at y9
        have hN : Lq.noMsg m x = y.event := by
          unfold Lq.noMsg Lq.noMsg.getMsg
          rw [hk, hkm, if_pos (by omega), Int.toNat_natCast, hy]
          rfl
        have k1 : (k : Int) < (m.messages.length : Int) := by omega
        have k2 : ¬ ((m.messages.length : Int) ≤ (k : Int)) := by omega
        clear hs hy hkm
        go_wp2_with fail
        go_meet
        case rel => exact ⟨by rw [hN], rfl⟩
      · have hN : Lq.noMsg m x = true := by
          unfold Lq.noMsg Lq.noMsg.getMsg
          rw [hk, hkm, if_pos (by omega), Int.toNat_natCast, List.getElem?_eq_none (by omega)]
          rfl
        have k2 : (m.messages.length : Int) ≤ (k : Int) := by omega
        clear hkm
        go_wp2_with fail
        go_meet
        case rel => exact ⟨by rw [hN], rfl⟩
  case rest =>
    obtain ⟨rfl, hwc⟩ := hcut
    obtain rfl : w2 = wc := hwc.symm
    clear y9 v0 v5
    cases hn : Lq.noMsg m x
    rotate_left
    · have hRv : R = 145 := by rw [HRe.out, hn]; rfl
      go_wp2
      go_ret
      exact ⟨by first | rfl | (rw [hRv]; rfl), HX2.out.below⟩
    have hst := Lq.step m
    have HStp : Hid (∀ w', Below w2.heap.size w2 w' → Calls Tryd.prog 22 #[mV m a] w' fun e w'' => e = .returned (.int .i64 (Lq.step m)) ∧ Below w'.heap.size w' w'') := fun w' hb => HSt.out w' (HX2.out.on hb).mem
    have e1 : Lq.tight m x = (decide (x.start < Lq.step m) || x.kind != 3 && decide (x.fin - x.start < Lq.step m)) := rfl
    obtain ⟨b1, ⟨b2, b3⟩, ⟨b4, b5⟩, _⟩ := hxw
    generalize Lq.tight m x = T at *
    generalize Lq.step m = V at *
    go_wp2_with fail
    go_cut [51] from 32 (fun v wx => v = .bool T ∧ Hid (Below w2.heap.size w2 wx))
    case first =>
      by_cases c1 : x.start < V
      · have hT : T = true := by rw [e1, decide_eq_true c1]; rfl
        clear e1
        refine Lw.wp_region_quiet_below (by kernel_rfl) (by kernel_rfl) ?_
        repeat (first
          | go_big_quiet_skip
          | (go_big_quiet_want; go_big_quiet_op; go_big_quiet_on)
          | (go_big_quiet_want; go_big_quiet_op; apply Exists.intro; refine ⟨fun _ hb' => ?_, ?_⟩; (first
            | exact Lw.val_rfl _
            | (go_at_call 22; exact Lw.calls_below hb' (HStp.out _ hb'))
            | (simp [go_sem, (HVr.out _ hb').2.1]; rfl)
            | (simp [go_sem, (HR.out _ hb').mat.1, (HR.out _ hb').mat.2.1, (HR.out _ hb').mat.2.2.1, (HR.out _ hb').mat.2.2.2.1, (HR.out _ hb').mat.2.2.2.2.1, (HR.out _ hb').mat.2.2.2.2.2.1, (HR.out _ hb').mat.2.2.2.2.2.2.1, (HR.out _ hb').mat.2.2.2.2.2.2.2.1, (HR.out _ hb').mat.2.2.2.2.2.2.2.2.1, (HR.out _ hb').mat.2.2.2.2.2.2.2.2.2.1, (HR.out _ hb').mat.2.2.2.2.2.2.2.2.2.2]; rfl)); go_big_quiet_on))
        refine wpQuiet_nil ?_
        intro wz hbz
        go_wp2_with fail
        go_meet
        case rel => exact ⟨by rw [hT], hbz⟩
      · cases c3 : (x.kind != 3)
        · have hT : T = false := by rw [e1, decide_eq_false c1, c3]; rfl
          clear e1
          refine Lw.wp_region_quiet_below (by kernel_rfl) (by kernel_rfl) ?_
          repeat (first
            | go_big_quiet_skip
            | (go_big_quiet_want; go_big_quiet_op; go_big_quiet_on)
            | (go_big_quiet_want; go_big_quiet_op; apply Exists.intro; refine ⟨fun _ hb' => ?_, ?_⟩; (first
              | exact Lw.val_rfl _
              | (go_at_call 22; exact Lw.calls_below hb' (HStp.out _ hb'))
              | (simp [go_sem, (HVr.out _ hb').1]; rfl)
              | (simp [go_sem, (HVr.out _ hb').2.1]; rfl)
              | (simp [go_sem, (HR.out _ hb').mat.1, (HR.out _ hb').mat.2.1, (HR.out _ hb').mat.2.2.1, (HR.out _ hb').mat.2.2.2.1, (HR.out _ hb').mat.2.2.2.2.1, (HR.out _ hb').mat.2.2.2.2.2.1, (HR.out _ hb').mat.2.2.2.2.2.2.1, (HR.out _ hb').mat.2.2.2.2.2.2.2.1, (HR.out _ hb').mat.2.2.2.2.2.2.2.2.1, (HR.out _ hb').mat.2.2.2.2.2.2.2.2.2.1, (HR.out _ hb').mat.2.2.2.2.2.2.2.2.2.2]; rfl)); go_big_quiet_on))
          refine wpQuiet_nil ?_
          intro wz hbz
          go_wp2_with fail
          go_meet
          case rel => exact ⟨by rw [hT], hbz⟩
        · by_cases c2 : x.fin - x.start < V
          · have hT : T = true := by rw [e1, c3, decide_eq_true c2]; simp
            clear e1
            refine Lw.wp_region_quiet_below (by kernel_rfl) (by kernel_rfl) ?_
            repeat (first
              | go_big_quiet_skip
              | (go_big_quiet_want; go_big_quiet_op; go_big_quiet_on)
              | (go_big_quiet_want; go_big_quiet_op; apply Exists.intro; refine ⟨fun _ hb' => ?_, ?_⟩; (first
                | exact Lw.val_rfl _
                | (go_at_call 22; exact Lw.calls_below hb' (HStp.out _ hb'))
                | (simp [go_sem, (HVr.out _ hb').1]; rfl)
                | (simp [go_sem, (HVr.out _ hb').2.1]; rfl)
                | (simp [go_sem, (HVr.out _ hb').2.2]; rfl)
                | (simp [go_sem, (HR.out _ hb').mat.1, (HR.out _ hb').mat.2.1, (HR.out _ hb').mat.2.2.1, (HR.out _ hb').mat.2.2.2.1, (HR.out _ hb').mat.2.2.2.2.1, (HR.out _ hb').mat.2.2.2.2.2.1, (HR.out _ hb').mat.2.2.2.2.2.2.1, (HR.out _ hb').mat.2.2.2.2.2.2.2.1, (HR.out _ hb').mat.2.2.2.2.2.2.2.2.1, (HR.out _ hb').mat.2.2.2.2.2.2.2.2.2.1, (HR.out _ hb').mat.2.2.2.2.2.2.2.2.2.2]; rfl)); go_big_quiet_on))
            refine wpQuiet_nil ?_
            intro wz hbz
            go_wp2_with fail
            go_meet
            case rel => exact ⟨by rw [hT], hbz⟩
          · have hT : T = false := by rw [e1, c3, decide_eq_false c1, decide_eq_false c2]; rfl
            clear e1
            refine Lw.wp_region_quiet_below (by kernel_rfl) (by kernel_rfl) ?_
            repeat (first
              | go_big_quiet_skip
              | (go_big_quiet_want; go_big_quiet_op; go_big_quiet_on)
              | (go_big_quiet_want; go_big_quiet_op; apply Exists.intro; refine ⟨fun _ hb' => ?_, ?_⟩; (first
                | exact Lw.val_rfl _
                | (go_at_call 22; exact Lw.calls_below hb' (HStp.out _ hb'))
                | (simp [go_sem, (HVr.out _ hb').1]; rfl)
                | (simp [go_sem, (HVr.out _ hb').2.1]; rfl)
                | (simp [go_sem, (HVr.out _ hb').2.2]; rfl)
                | (simp [go_sem, (HR.out _ hb').mat.1, (HR.out _ hb').mat.2.1, (HR.out _ hb').mat.2.2.1, (HR.out _ hb').mat.2.2.2.1, (HR.out _ hb').mat.2.2.2.2.1, (HR.out _ hb').mat.2.2.2.2.2.1, (HR.out _ hb').mat.2.2.2.2.2.2.1, (HR.out _ hb').mat.2.2.2.2.2.2.2.1, (HR.out _ hb').mat.2.2.2.2.2.2.2.2.1, (HR.out _ hb').mat.2.2.2.2.2.2.2.2.2.1, (HR.out _ hb').mat.2.2.2.2.2.2.2.2.2.2]; rfl)); go_big_quiet_on))
            refine wpQuiet_nil ?_
            intro wz hbz
            go_wp2_with fail
            go_meet
            case rel => exact ⟨by rw [hT], hbz⟩
    case rest =>
      obtain ⟨rfl, HB2⟩ := hcut
      clear e1 b1 b2 b3 b4 b5 HVr HStp HSt HV
      cases T
      rotate_left
      · have hRv : R = 144 := by rw [HRe.out, hn]; rfl
        have HBz : Hid (Below w.heap.size w wc) := (HX2.out.on HB2.out).below
        go_wp2
        go_ret
        exact ⟨by first | rfl | (rw [hRv]; rfl), HBz.out⟩
      have HRm : Hid (R = if Lq.meets m i then 143 else 0) := by show R = _; rw [HRe.out, hn]; rfl
      clear HRe hn
      go_wp2_with fail
      go_loopw [6] (fun vi wr => ∃ k : Nat, k ≤ i ∧ vi = .int .i64 (k : Int) ∧ Hid (Below w2.heap.size w2 wr) ∧ Hid (∀ c, c < k → Lq.meet m (c : Int) (i : Int) = false)) (fun vi _ => i - (intOf vi).toNat)
      case atStart => exact ⟨0, Nat.zero_le _, rfl, HB2, fun c hc => absurd hc (Nat.not_lt_zero _)⟩
      case round =>
        clear HB2
        obtain ⟨k, hk, rfl, HB3, HF⟩ := hrel
        by_cases hki : k < i
        · have ki : (k : Int) < (i : Int) := by omega
          obtain ⟨y0, y1, y2, y3, y4, y5, y6, y7, y8, y9, y10⟩ := (HR.out _ HB3.out).mat
          have hmt := HMt.out wr k (HX2.out.on HB3.out).mem
          cases hmk : Lq.meet m (k : Int) (i : Int)
          · rw [hmk] at hmt
            go_wp2_with fail
            refine hmt.mono ?_
            rintro e wz ⟨rfl, hb⟩
            have HB4 : Hid (Below w2.heap.size w2 wz) := HB3.out.trans (hb.mono HB3.out.size)
            have HF2 : Hid (∀ c, c < k + 1 → Lq.meet m (c : Int) (i : Int) = false) := Lq.upto_b (f := fun c => Lq.meet m (c : Int) (i : Int)) HF.out hmk
            clear y0 y1 y2 y3 y4 y5 y6 y7 y8 y9 y10 hb hmt
            go_wp2_with fail
            go_roundw
            case rel => exact ⟨k + 1, by omega, rfl, HB4, HF2⟩
            case measure => simp only [intOf]; omega
          · rw [hmk] at hmt
            have hRv : R = 143 := by
              rw [HRm.out, show Lq.meets m i = true from List.any_eq_true.2 ⟨k, List.mem_range.2 hki, hmk⟩]
              rfl
            go_wp2_with fail
            refine hmt.mono ?_
            rintro e wz ⟨rfl, hb⟩
            have HB4 : Hid (Below w2.heap.size w2 wz) := HB3.out.trans (hb.mono HB3.out.size)
            have HBz : Hid (Below w.heap.size w wz) := (HX2.out.on HB4.out).below
            clear y0 y1 y2 y3 y4 y5 y6 y7 y8 y9 y10 hb hmt
            go_wp2
            go_ret
            exact ⟨by first | rfl | (rw [hRv]; rfl), HBz.out⟩
        · have ki : ¬ ((k : Int) < (i : Int)) := by omega
          have hRv : R = 0 := by
            rw [HRm.out, show Lq.meets m i = false from Lq.any_none (fun c hc => HF.out c (by omega))]
            rfl
          have HBz : Hid (Below w.heap.size w wr) := (HX2.out.on HB3.out).below
          go_wp2
          go_ret
          exact ⟨by first | rfl | (rw [hRv]; rfl), HBz.out⟩
end Go.Proofs.YtnbfnipdiffphaaDoor
