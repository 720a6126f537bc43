/- Layer 14: the document's Check. -/
import Derived.Test.YtnbfnipdiffphaaDoorL4
import Derived.Deep.RegionHeld3
import Derived.Deep.CutBlock
import Derived.WalkArith
import Derived.WalkSpells
namespace Go.Proofs.YtnbfnipdiffphaaDoor
open Go.RowKit Go.WideShapes
set_option linter.unusedVariables false
set_option maxRecDepth 100000 in
set_option maxHeartbeats 4000000 in
theorem rcheck_any (w : World) (m : Mx.M) (a : Ma) (hm : MIn w m a) (hS : Mx.Small m) (hwf : Mx.Wf m) : Calls Tryd.prog 18 #[mV m a] w fun e w' => e = .returned (.tuple #[.int .i64 (Lq.check m).1, .int .i64 (Lq.check m).2]) ∧ Below w.heap.size w w' := by
  have HX : Hid (Bx w (w.alloc (.cells (mCs m a) 27)) w.heap.size m a) := Bx.mk' hm
  have hl := hS.a
  have hl2 := hS.b
  have hl3 := hS.c
  have l1 : (m.masters.length : Int) ≤ 1000 := by omega
  have l2 : (m.messages.length : Int) ≤ 1000 := by omega
  have l3 : (m.windows.length : Int) ≤ 1000 := by omega
  have HS : Hid (Mx.Small m) := hS
  have HWf : Hid (Mx.Wf m) := hwf
  obtain ⟨R1, hR1⟩ : ∃ R1, (Lq.check m).1 = R1 := ⟨_, rfl⟩
  obtain ⟨R2, hR2⟩ : ∃ R2, (Lq.check m).2 = R2 := ⟨_, rfl⟩
  rw [hR1, hR2]
  have HRe : Hid ((R1, R2) = Lq.check m) := by show _ = _; rw [← hR1, ← hR2]
  clear hm hS hwf hR1 hR2 hl hl2 hl3
  obtain ⟨y0, y1, y2, y3, y4, y5, y6, y7, y8, y9, y10⟩ := HX.out.row.mat
  go_enter Tryd.func18, Tryd.ntmps18
  go_wp2_with fail
  refine (ris_any _ m a HX.out.mem HS.out).mono ?_
  rintro e wB ⟨rfl, hb⟩
  replace HX : Hid (Bx w wB w.heap.size m a) := HX.out.on hb
  clear y0 y1 y2 y3 y4 y5 y6 y7 y8 y9 y10 hb
  have HR : Hid (∀ w', Below wB.heap.size wB w' → RowT 27 w' w.heap.size (mCs m a)) := fun w' hb => (HX.out.on hb).row
  cases hi : Mx.is m
  · have hRR : R1 = 0 ∧ R2 = 120 := by
      have := HRe.out
      unfold Lq.check at this
      rw [hi, if_pos rfl] at this
      exact ⟨(Prod.mk.inj this).1, (Prod.mk.inj this).2⟩
    obtain ⟨rfl, rfl⟩ := hRR
    go_wp2
    go_ret2
    exact ⟨rfl, HX.out.below⟩
  have HI : Hid (Mx.is m = true) := hi
  have HStp : Hid (∀ w', Below wB.heap.size wB w' → Calls Tryd.prog 22 #[mV m a] w' fun e w'' => e = .returned (.int .i64 (Lq.step m)) ∧ Below w'.heap.size w' w'') := fun w' hb => rstep_any w' m a (HX.out.on hb).mem HS.out HWf.out
  have HRe2 : Hid ((R1, R2) = if m.length < Lq.step m then (0, 140) else Lq.orElse (Lq.scan (Lq.eMaster m) m.masters.length 0) (Lq.orElse (Lq.scan (Lq.eOwner m) m.messages.length 0) (Lq.orElse (Lq.twice m) (Lq.scan (Lq.eWin m) m.windows.length 0)))) := by
    show _ = _
    rw [HRe.out]
    unfold Lq.check
    rw [hi, if_neg (by simp)]
  clear HRe hi
  have HWn : Hid (∀ w' (k : Nat), Below wB.heap.size wB w' → k < m.windows.length → Calls Tryd.prog 31 #[mV m a, .int .i64 (k : Int)] w' fun e w'' => e = .returned (.int .i64 (Lq.eWin m k)) ∧ Below w'.heap.size w' w'') := fun w' k hb hk => rwindow_any w' m a k (HX.out.on hb).mem HS.out HWf.out HI.out hk
  have HTw : Hid (∀ w', Below wB.heap.size wB w' → Calls Tryd.prog 30 #[mV m a] w' fun e w'' => e = .returned (.tuple #[.int .i64 (Lq.twice m).1, .int .i64 (Lq.twice m).2]) ∧ Below w'.heap.size w' w'') := fun w' hb => rtwice_any w' m a (HX.out.on hb).mem HS.out HWf.out
  generalize Lq.step m = V at *
  by_cases hv : m.length < V
  · have hRR : R1 = 0 ∧ R2 = 140 := by
      have := HRe2.out
      rw [if_pos hv] at this
      exact ⟨(Prod.mk.inj this).1, (Prod.mk.inj this).2⟩
    obtain ⟨rfl, rfl⟩ := hRR
    clear HRe2
    go_wp2_with fail
    refine Lw.wp_region_quiet_below (by kernel_rfl) (by kernel_rfl) ?_
    repeat (first
      | go_big_quiet_skip
      | (go_big_quiet_want; go_big_quiet_op; go_big_quiet_on)
      | (go_big_quiet_want; go_big_quiet_op; apply Exists.intro; refine ⟨fun _ hb' => ?_, ?_⟩; (first
        | exact Lw.val_rfl _
        | (go_at_call 22; exact Lw.calls_below hb' (HStp.out _ hb'))
        | (simp [go_sem, (HR.out _ hb').mat.2.2.2.1]; rfl)
        | (simp [go_sem, (HR.out _ hb').mat.1, (HR.out _ hb').mat.2.1, (HR.out _ hb').mat.2.2.1, (HR.out _ hb').mat.2.2.2.1, (HR.out _ hb').mat.2.2.2.2.1, (HR.out _ hb').mat.2.2.2.2.2.1, (HR.out _ hb').mat.2.2.2.2.2.2.1, (HR.out _ hb').mat.2.2.2.2.2.2.2.1, (HR.out _ hb').mat.2.2.2.2.2.2.2.2.1, (HR.out _ hb').mat.2.2.2.2.2.2.2.2.2.1, (HR.out _ hb').mat.2.2.2.2.2.2.2.2.2.2]; rfl)); go_big_quiet_on))
    refine wpQuiet_nil ?_
    intro wz hbz
    have HBz : Hid (Below w.heap.size w wz) := (HX.out.on hbz).below
    clear hbz
    go_wp2
    go_ret2
    exact ⟨rfl, HBz.out⟩
  have HRe3 : Hid ((R1, R2) = Lq.orElse (Lq.scan (Lq.eMaster m) m.masters.length 0) (Lq.orElse (Lq.scan (Lq.eOwner m) m.messages.length 0) (Lq.orElse (Lq.twice m) (Lq.scan (Lq.eWin m) m.windows.length 0)))) := by show _ = _; rw [HRe2.out, if_neg hv]
  clear HRe2
  go_wp2_with fail
  refine Lw.wp_region_quiet_below (by kernel_rfl) (by kernel_rfl) ?_
  repeat (first
    | go_big_quiet_skip
    | (go_big_quiet_want; go_big_quiet_op; go_big_quiet_on)
    | (go_big_quiet_want; go_big_quiet_op; apply Exists.intro; refine ⟨fun _ hb' => ?_, ?_⟩; (first
      | exact Lw.val_rfl _
      | (go_at_call 22; exact Lw.calls_below hb' (HStp.out _ hb'))
      | (simp [go_sem, (HR.out _ hb').mat.2.2.2.1]; rfl)
      | (simp [go_sem, (HR.out _ hb').mat.1, (HR.out _ hb').mat.2.1, (HR.out _ hb').mat.2.2.1, (HR.out _ hb').mat.2.2.2.1, (HR.out _ hb').mat.2.2.2.2.1, (HR.out _ hb').mat.2.2.2.2.2.1, (HR.out _ hb').mat.2.2.2.2.2.2.1, (HR.out _ hb').mat.2.2.2.2.2.2.2.1, (HR.out _ hb').mat.2.2.2.2.2.2.2.2.1, (HR.out _ hb').mat.2.2.2.2.2.2.2.2.2.1, (HR.out _ hb').mat.2.2.2.2.2.2.2.2.2.2]; rfl)); go_big_quiet_on))
  refine wpQuiet_nil ?_
  intro wz hbz
  have HB0 : Hid (Below wB.heap.size wB wz) := hbz
  clear hbz HStp
  go_wp2_with fail
  clear hv
  go_loopw [4] (fun vi wr => ∃ k : Nat, k ≤ m.masters.length ∧ vi = .int .i64 (k : Int) ∧ Hid (Below wB.heap.size wB wr) ∧ Hid (∀ j, j < k → Lq.eMaster m j = 0)) (fun vi _ => m.masters.length - (intOf vi).toNat)
  case atStart => exact ⟨0, Nat.zero_le _, rfl, HB0, fun c hc => absurd hc (Nat.not_lt_zero _)⟩
  case round =>
    clear HB0
    obtain ⟨k, hk, rfl, HB, HF⟩ := hrel
    have y8 := (HR.out _ HB.out).mat.2.2.2.2.2.2.2.2.1
    by_cases hkl : k < m.masters.length
    · have ki : (k : Int) < (m.masters.length : Int) := by omega
      obtain ⟨x, hx⟩ : ∃ x, m.masters[k]? = some x := ⟨_, List.getElem?_eq_getElem hkl⟩
      obtain ⟨g, o, hs, _, _⟩ := HX.out.mem.master hx
      have HC : Hid (∀ w', Below wr.heap.size wr w' → w'.cell? ⟨w.heap.size, 8, none⟩ = some (.slice (some ⟨g, o, none⟩) m.masters.length a.c1) ∧ w'.cell? ⟨g, o + k, none⟩ = some (.int .i64 x) ∧ w'.cell? ⟨w.heap.size, 1, none⟩ = some (.int .i64 m.nodes)) := fun w' hb => by
        have hb2 := HB.out.trans (hb.mono HB.out.size)
        have h8 := (HR.out _ hb2).mat.2.2.2.2.2.2.2.2.1
        obtain ⟨g1, o1, e1, _, q⟩ := (HX.out.on hb2).mem.master hx
        rw [hs] at e1 h8
        injection e1 with e1
        injection e1 with e1 e1o
        subst e1 e1o
        exact ⟨h8, q, (HR.out _ hb2).mat.2.1⟩
      have HEk : Hid (Lq.eMaster m k = if m.nodes ≤ x then 141 else 0) := by show _ = _; unfold Lq.eMaster; rw [hx]
      rw [hs] at y8
      clear hs hx
      by_cases hv : m.nodes ≤ x
      · have hE : Lq.eMaster m k = 141 := by rw [HEk.out, if_pos hv]
        have hsc := Lq.scan_some (f := Lq.eMaster m) (j := k) (n := m.masters.length) (k := 0) (by rw [hE]; decide) (Nat.zero_le _) (by omega) (fun i _ h => HF.out i h)
        have hRR : R1 = (k : Int) ∧ R2 = 141 := by
          have := HRe3.out
          rw [hsc, hE, Lq.orElse_some (by show (141 : Int) ≠ 0; decide)] at this
          exact ⟨(Prod.mk.inj this).1, (Prod.mk.inj this).2⟩
        obtain ⟨rfl, rfl⟩ := hRR
        clear hsc hE HRe3 HEk
        go_wp2_with fail
        refine Lw.wp_region_quiet_below (by kernel_rfl) (by kernel_rfl) ?_
        repeat (first
          | go_big_quiet_skip
          | (go_big_quiet_want; go_big_quiet_op; go_big_quiet_on)
          | (go_big_quiet_want; go_big_quiet_op; apply Exists.intro; refine ⟨fun _ hb' => ?_, ?_⟩; (first
            | exact Lw.val_rfl _
            | (simp [go_sem, (HC.out _ hb').1]; rfl)
            | (simp [go_sem, (HC.out _ hb').2.1]; rfl)
            | (simp [go_sem, (HC.out _ hb').2.2]; rfl)); go_big_quiet_on))
        refine wpQuiet_nil ?_
        intro wz hbz
        have HBz : Hid (Below w.heap.size w wz) := (HX.out.on (HB.out.trans (hbz.mono HB.out.size))).below
        clear hbz
        go_wp2
        go_ret2
        exact ⟨rfl, HBz.out⟩
      · have hE : Lq.eMaster m k = 0 := by rw [HEk.out, if_neg hv]
        have HF2 : Hid (∀ j, j < k + 1 → Lq.eMaster m j = 0) := Lq.upto HF.out hE
        clear hE HEk
        go_wp2_with fail
        refine Lw.wp_region_quiet_below (by kernel_rfl) (by kernel_rfl) ?_
        repeat (first
          | go_big_quiet_skip
          | (go_big_quiet_want; go_big_quiet_op; go_big_quiet_on)
          | (go_big_quiet_want; go_big_quiet_op; apply Exists.intro; refine ⟨fun _ hb' => ?_, ?_⟩; (first
            | exact Lw.val_rfl _
            | (simp [go_sem, (HC.out _ hb').1]; rfl)
            | (simp [go_sem, (HC.out _ hb').2.1]; rfl)
            | (simp [go_sem, (HC.out _ hb').2.2]; rfl)); go_big_quiet_on))
        refine wpQuiet_nil ?_
        intro wz hbz
        have HBz : Hid (Below wB.heap.size wB wz) := HB.out.trans (hbz.mono HB.out.size)
        clear hbz
        go_wp2_with fail
        go_roundw
        case rel => exact ⟨k + 1, by omega, rfl, HBz, HF2⟩
        case measure => simp only [intOf]; omega
    · have ki : ¬ ((k : Int) < (m.masters.length : Int)) := by omega
      have HRf : Hid ((R1, R2) = Lq.orElse (Lq.scan (Lq.eOwner m) m.messages.length 0) (Lq.orElse (Lq.twice m) (Lq.scan (Lq.eWin m) m.windows.length 0))) := by
        show _ = _
        rw [HRe3.out, Lq.scan_none (f := Lq.eMaster m) (fun j _ hj => HF.out j (by omega))]
        rfl
      clear HRe3 HF
      go_wp2_with fail
      clear y8
      go_loopw [5] (fun vi wr => ∃ k : Nat, k ≤ m.messages.length ∧ vi = .int .i64 (k : Int) ∧ Hid (Below wB.heap.size wB wr) ∧ Hid (∀ j, j < k → Lq.eOwner m j = 0)) (fun vi _ => m.messages.length - (intOf vi).toNat)
      case atStart => exact ⟨0, Nat.zero_le _, rfl, HB, fun c hc => absurd hc (Nat.not_lt_zero _)⟩
      case round =>
        clear HB ki hk hkl
        obtain ⟨k, hk, rfl, HB, HF⟩ := hrel
        have y9 := (HR.out _ HB.out).mat.2.2.2.2.2.2.2.2.2.1
        by_cases hkl : k < m.messages.length
        · have ki : (k : Int) < (m.messages.length : Int) := by omega
          obtain ⟨x, hx⟩ : ∃ x, m.messages[k]? = some x := ⟨_, List.getElem?_eq_getElem hkl⟩
          obtain ⟨g, o, hs, _⟩ := HX.out.mem.message hx
          have HC : Hid (∀ w', Below wr.heap.size wr w' → w'.cell? ⟨w.heap.size, 9, none⟩ = some (.slice (some ⟨g, o, none⟩) m.messages.length a.c2) ∧ w'.cell? ⟨g, o + k * 3 + 1, none⟩ = some (.int .i64 x.owner) ∧ w'.cell? ⟨w.heap.size, 1, none⟩ = some (.int .i64 m.nodes)) := fun w' hb => by
            have hb2 := HB.out.trans (hb.mono HB.out.size)
            have h8 := (HR.out _ hb2).mat.2.2.2.2.2.2.2.2.2.1
            obtain ⟨g1, o1, e1, _, _, q, _⟩ := (HX.out.on hb2).mem.message hx
            rw [hs] at e1 h8
            injection e1 with e1
            injection e1 with e1 e1o
            subst e1 e1o
            exact ⟨h8, q, (HR.out _ hb2).mat.2.1⟩
          have HEk : Hid (Lq.eOwner m k = if m.nodes ≤ x.owner then 141 else 0) := by show _ = _; unfold Lq.eOwner; rw [hx]
          rw [hs] at y9
          clear hs hx
          by_cases hv : m.nodes ≤ x.owner
          · have hE : Lq.eOwner m k = 141 := by rw [HEk.out, if_pos hv]
            have hsc := Lq.scan_some (f := Lq.eOwner m) (j := k) (n := m.messages.length) (k := 0) (by rw [hE]; decide) (Nat.zero_le _) (by omega) (fun i _ h => HF.out i h)
            have hRR : R1 = (k : Int) ∧ R2 = 141 := by
              have := HRf.out
              rw [hsc, hE, Lq.orElse_some (by show (141 : Int) ≠ 0; decide)] at this
              exact ⟨(Prod.mk.inj this).1, (Prod.mk.inj this).2⟩
            obtain ⟨rfl, rfl⟩ := hRR
            clear hsc hE HRf HEk
            go_wp2_with fail
            refine Lw.wp_region_quiet_below (by kernel_rfl) (by kernel_rfl) ?_
            repeat (first
              | go_big_quiet_skip
              | (go_big_quiet_want; go_big_quiet_op; go_big_quiet_on)
              | (go_big_quiet_want; go_big_quiet_op; apply Exists.intro; refine ⟨fun _ hb' => ?_, ?_⟩; (first
                | exact Lw.val_rfl _
                | (simp [go_sem, (HC.out _ hb').1]; rfl)
                | (simp [go_sem, (HC.out _ hb').2.1]; rfl)
                | (simp [go_sem, (HC.out _ hb').2.2]; rfl)); go_big_quiet_on))
            refine wpQuiet_nil ?_
            intro wz hbz
            have HBz : Hid (Below w.heap.size w wz) := (HX.out.on (HB.out.trans (hbz.mono HB.out.size))).below
            clear hbz
            go_wp2
            go_ret2
            exact ⟨rfl, HBz.out⟩
          · have hE : Lq.eOwner m k = 0 := by rw [HEk.out, if_neg hv]
            have HF2 : Hid (∀ j, j < k + 1 → Lq.eOwner m j = 0) := Lq.upto HF.out hE
            clear hE HEk
            go_wp2_with fail
            refine Lw.wp_region_quiet_below (by kernel_rfl) (by kernel_rfl) ?_
            repeat (first
              | go_big_quiet_skip
              | (go_big_quiet_want; go_big_quiet_op; go_big_quiet_on)
              | (go_big_quiet_want; go_big_quiet_op; apply Exists.intro; refine ⟨fun _ hb' => ?_, ?_⟩; (first
                | exact Lw.val_rfl _
                | (simp [go_sem, (HC.out _ hb').1]; rfl)
                | (simp [go_sem, (HC.out _ hb').2.1]; rfl)
                | (simp [go_sem, (HC.out _ hb').2.2]; rfl)); go_big_quiet_on))
            refine wpQuiet_nil ?_
            intro wz hbz
            have HBz : Hid (Below wB.heap.size wB wz) := HB.out.trans (hbz.mono HB.out.size)
            clear hbz
            go_wp2_with fail
            go_roundw
            case rel => exact ⟨k + 1, by omega, rfl, HBz, HF2⟩
            case measure => simp only [intOf]; omega
        · have ki : ¬ ((k : Int) < (m.messages.length : Int)) := by omega
          have HRg : Hid ((R1, R2) = Lq.orElse (Lq.twice m) (Lq.scan (Lq.eWin m) m.windows.length 0)) := by
            show _ = _
            rw [HRf.out, Lq.scan_none (f := Lq.eOwner m) (fun j _ hj => HF.out j (by omega))]
            rfl
          clear HRf HF
          have htw := HTw.out _ HB.out
          obtain ⟨y0, y1, y2, y3, y4, y5, y6, y7, y8, y9', y10⟩ := (HR.out _ HB.out).mat
          obtain ⟨T1, hT1⟩ : ∃ T1, (Lq.twice m).1 = T1 := ⟨_, rfl⟩
          obtain ⟨T2, hT2⟩ : ∃ T2, (Lq.twice m).2 = T2 := ⟨_, rfl⟩
          rw [hT1, hT2] at htw
          go_wp2_with fail
          refine htw.mono ?_
          rintro e wt ⟨rfl, hb⟩
          have HBt : Hid (Below wB.heap.size wB wt) := HB.out.trans (hb.mono HB.out.size)
          clear y0 y1 y2 y3 y4 y5 y6 y7 y8 y9' y10 y9 hb htw HB
          cases ht : (T2 != 0)
          · have h0 : (Lq.twice m).2 = 0 := by rw [hT2]; simpa [bne] using ht
            have HRh : Hid ((R1, R2) = Lq.scan (Lq.eWin m) m.windows.length 0) := by show _ = _; rw [HRg.out, Lq.orElse_zero h0]
            clear HRg hT1 hT2 h0
            go_wp2_with fail
            go_loopw [8, 9] (fun vi _v wr => ∃ k : Nat, k ≤ m.windows.length ∧ vi = .int .i64 (k : Int) ∧ Hid (Below wB.heap.size wB wr) ∧ Hid (∀ j, j < k → Lq.eWin m j = 0)) (fun vi _ _ => m.windows.length - (intOf vi).toNat)
            case atStart => exact ⟨0, Nat.zero_le _, rfl, HBt, fun c hc => absurd hc (Nat.not_lt_zero _)⟩
            case round =>
              clear HBt ki hk hkl
              obtain ⟨k, hk, rfl, HB, HF⟩ := hrel
              obtain ⟨y0, y1, y2, y3, y4, y5, y6, y7, y8, y9, y10⟩ := (HR.out _ HB.out).mat
              by_cases hkl : k < m.windows.length
              · have ki : (k : Int) < (m.windows.length : Int) := by omega
                have hwn := HWn.out wr k HB.out hkl
                obtain ⟨E, hE⟩ : ∃ E, Lq.eWin m k = E := ⟨_, rfl⟩
                rw [hE] at hwn
                go_wp2_with fail
                refine hwn.mono ?_
                rintro e wz ⟨rfl, hb⟩
                have HBz : Hid (Below wB.heap.size wB wz) := HB.out.trans (hb.mono HB.out.size)
                clear y0 y1 y2 y3 y4 y5 y6 y7 y8 y9 y10 hb hwn
                cases he : (E != 0)
                · have hE0 : Lq.eWin m k = 0 := by rw [hE]; simpa [bne] using he
                  have HF2 : Hid (∀ j, j < k + 1 → Lq.eWin m j = 0) := Lq.upto HF.out hE0
                  clear hE hE0
                  go_wp2_with fail
                  go_roundw
                  case rel => exact ⟨k + 1, by omega, rfl, HBz, HF2⟩
                  case measure => simp only [intOf]; omega
                · have hE0 : Lq.eWin m k ≠ 0 := by rw [hE]; simpa [bne] using he
                  have hsc := Lq.scan_some (f := Lq.eWin m) (j := k) (n := m.windows.length) (k := 0) hE0 (Nat.zero_le _) (by omega) (fun i _ h => HF.out i h)
                  have hRR : R1 = (k : Int) ∧ R2 = E := by
                    have := HRh.out
                    rw [hsc, hE] at this
                    exact ⟨(Prod.mk.inj this).1, (Prod.mk.inj this).2⟩
                  obtain ⟨rfl, rfl⟩ := hRR
                  have HBw : Hid (Below w.heap.size w wz) := (HX.out.on HBz.out).below
                  clear hE hE0 hsc HRh
                  go_wp2
                  go_ret2
                  exact ⟨rfl, HBw.out⟩
              · have ki : ¬ ((k : Int) < (m.windows.length : Int)) := by omega
                have hRR : R1 = 0 ∧ R2 = 0 := by
                  have := HRh.out
                  rw [Lq.scan_none (fun j _ hj => HF.out j (by omega))] at this
                  exact ⟨(Prod.mk.inj this).1, (Prod.mk.inj this).2⟩
                obtain ⟨rfl, rfl⟩ := hRR
                have HBz : Hid (Below w.heap.size w wr) := (HX.out.on HB.out).below
                go_wp2
                go_ret2
                exact ⟨rfl, HBz.out⟩
          · have h0 : (Lq.twice m).2 ≠ 0 := by rw [hT2]; simpa [bne] using ht
            have hRR : R1 = T1 ∧ R2 = T2 := by
              have := HRg.out
              rw [Lq.orElse_some h0] at this
              exact ⟨(congrArg Prod.fst this).trans hT1, (congrArg Prod.snd this).trans hT2⟩
            obtain ⟨rfl, rfl⟩ := hRR
            have HBz : Hid (Below w.heap.size w wt) := (HX.out.on HBt.out).below
            clear hT1 hT2 h0 HRg
            go_wp2
            go_ret2
            exact ⟨rfl, HBz.out⟩
end Go.Proofs.YtnbfnipdiffphaaDoor
