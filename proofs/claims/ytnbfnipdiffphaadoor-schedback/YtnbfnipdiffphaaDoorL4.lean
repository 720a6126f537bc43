/- Layer 14: the document's twice. -/
import Derived.Test.YtnbfnipdiffphaaDoorL3
import Derived.Deep.RegionHeld3
import Derived.Deep.CutBlock
import Derived.WalkArith
import Derived.WalkSpells
namespace Go.Proofs.YtnbfnipdiffphaaDoor
open Go.RowKit Go.WideShapes
set_option linter.unusedVariables false
set_option maxRecDepth 100000 in
set_option maxHeartbeats 4000000 in
theorem rtwice_any (w : World) (m : Mx.M) (a : Ma) (hm : MIn w m a) (hS : Mx.Small m) (hwf : Mx.Wf m) : Calls Tryd.prog 30 #[mV m a] w fun e w' => e = .returned (.tuple #[.int .i64 (Lq.twice m).1, .int .i64 (Lq.twice m).2]) ∧ Below w.heap.size w w' := by
  have HX : Hid (Bx w (w.alloc (.cells (mCs m a) 27)) w.heap.size m a) := Bx.mk' hm
  have hl := hS.a
  have hl2 := hS.b
  have l1 : (m.masters.length : Int) ≤ 1000 := by omega
  have l2 : (m.messages.length : Int) ≤ 1000 := by omega
  have HS : Hid (Mx.Small m) := hS
  have HWf : Hid (Mx.Wf m) := hwf
  obtain ⟨R1, hR1⟩ : ∃ R1, (Lq.twice m).1 = R1 := ⟨_, rfl⟩
  obtain ⟨R2, hR2⟩ : ∃ R2, (Lq.twice m).2 = R2 := ⟨_, rfl⟩
  rw [hR1, hR2]
  have HRe : Hid ((R1, R2) = Lq.orElse (Lq.scan (Lq.eRank m) m.masters.length 0) (Lq.scan (Lq.eFind m) m.messages.length 0)) := by show _ = Lq.twice m; rw [← hR1, ← hR2]
  show Calls _ _ #[.agg (mCs m a)] _ _
  generalize mCs m a = cs at HX ⊢
  clear hm hS hwf hR1 hR2 hl hl2
  go_enter Tryd.func30, Tryd.ntmps30
  go_wp2_with fail
  generalize w.alloc (.cells cs 27) = wB at HX ⊢
  have HR : Hid (∀ w', Below wB.heap.size wB w' → RowT 27 w' w.heap.size (mCs m a)) := fun w' hb => (HX.out.on hb).row
  go_loopw [4] (fun vi wr => ∃ k : Nat, k ≤ m.masters.length ∧ vi = .int .i64 (k : Int) ∧ Hid (Below wB.heap.size wB wr) ∧ Hid (∀ j, j < k → Lq.eRank m j = 0)) (fun vi _ => m.masters.length - (intOf vi).toNat)
  case atStart => exact ⟨0, Nat.zero_le _, rfl, Below.refl _ _, fun c hc => absurd hc (Nat.not_lt_zero _)⟩
  case round =>
    obtain ⟨k, hk, rfl, HB, HF⟩ := hrel
    have y8 := (HR.out _ HB.out).mat.2.2.2.2.2.2.2.2.1
    by_cases hkl : k < m.masters.length
    · have ki : (k : Int) < (m.masters.length : Int) := by omega
      obtain ⟨x, hx⟩ : ∃ x, m.masters[k]? = some x := ⟨_, List.getElem?_eq_getElem hkl⟩
      obtain ⟨g, o, hs, _, _⟩ := HX.out.mem.master hx
      have HC : Hid (∀ w', Below wr.heap.size wr w' → w'.cell? ⟨w.heap.size, 8, none⟩ = some (.slice (some ⟨g, o, none⟩) m.masters.length a.c1) ∧ w'.cell? ⟨g, o + k, none⟩ = some (.int .i64 x)) := fun w' hb => by
        have hb2 := HB.out.trans (hb.mono HB.out.size)
        have h8 := (HR.out _ hb2).mat.2.2.2.2.2.2.2.2.1
        obtain ⟨g1, o1, e1, _, q⟩ := (HX.out.on hb2).mem.master hx
        rw [hs] at e1 h8
        injection e1 with e1
        injection e1 with e1 e1o
        subst e1 e1o
        exact ⟨h8, q⟩
      have HR2 : Hid (∀ w', Below wr.heap.size wr w' → RowT 27 w' w.heap.size (mCs m a)) := fun w' hb => HR.out _ (HB.out.trans (hb.mono HB.out.size))
      have HRk : Hid (∀ w', Below wr.heap.size wr w' → Calls Tryd.prog 24 #[mV m a, .int .i64 x] w' fun e w'' => e = .returned (.int .i64 (Mx.rank m x)) ∧ Below w'.heap.size w' w'') := fun w' hb => rrank_any w' m a x (HX.out.on (HB.out.trans (hb.mono HB.out.size))).mem HS.out
      have HEk : Hid (Lq.eRank m k = if Mx.rank m x < (k : Int) then 142 else 0) := by show _ = _; unfold Lq.eRank; rw [hx]
      rw [hs] at y8
      clear hs
      generalize Mx.rank m x = V at *
      by_cases hv : V < (k : Int)
      · have hE : Lq.eRank m k = 142 := by rw [HEk.out, if_pos hv]
        have hsc := Lq.scan_some (f := Lq.eRank m) (j := k) (n := m.masters.length) (k := 0) (by rw [hE]; decide) (Nat.zero_le _) (by omega) (fun i _ h => HF.out i h)
        have hRR : R1 = (k : Int) ∧ R2 = 142 := by
          have := HRe.out
          rw [hsc, hE, Lq.orElse_some (by show (142 : Int) ≠ 0; decide)] at this
          exact ⟨(Prod.mk.inj this).1, (Prod.mk.inj this).2⟩
        obtain ⟨rfl, rfl⟩ := hRR
        clear hsc hE HRe HEk
        go_wp2_with fail
        refine Lw.wp_region_quiet_below (by kernel_rfl) (by kernel_rfl) ?_
        repeat (first
          | go_big_quiet_skip
          | (go_big_quiet_want; go_big_quiet_op; go_big_quiet_on)
          | (go_big_quiet_want; go_big_quiet_op; apply Exists.intro; refine ⟨fun _ hb' => ?_, ?_⟩; (first
            | exact Lw.val_rfl _
            | (go_at_call 24; exact Lw.calls_below hb' (HRk.out _ hb'))
            | (simp [go_sem, (HC.out _ hb').1]; rfl)
            | (simp [go_sem, (HC.out _ hb').2]; rfl)
            | (simp [go_sem, (HR2.out _ hb').mat.1, (HR2.out _ hb').mat.2.1, (HR2.out _ hb').mat.2.2.1, (HR2.out _ hb').mat.2.2.2.1, (HR2.out _ hb').mat.2.2.2.2.1, (HR2.out _ hb').mat.2.2.2.2.2.1, (HR2.out _ hb').mat.2.2.2.2.2.2.1, (HR2.out _ hb').mat.2.2.2.2.2.2.2.1, (HR2.out _ hb').mat.2.2.2.2.2.2.2.2.1, (HR2.out _ hb').mat.2.2.2.2.2.2.2.2.2.1, (HR2.out _ hb').mat.2.2.2.2.2.2.2.2.2.2]; rfl)); go_big_quiet_on))
        refine wpQuiet_nil ?_
        intro wz hbz
        have HBz : Hid (Below w.heap.size w wz) := (HX.out.on (HB.out.trans (hbz.mono HB.out.size))).below
        clear hbz
        go_wp2
        go_ret2
        exact ⟨rfl, HBz.out⟩
      · have hE : Lq.eRank m k = 0 := by rw [HEk.out, if_neg hv]
        have HF2 : Hid (∀ j, j < k + 1 → Lq.eRank m j = 0) := Lq.upto HF.out hE
        have hv' : ¬ (V < (k : Int)) := hv
        clear hE HEk hv
        go_wp2_with fail
        refine Lw.wp_region_quiet_below (by kernel_rfl) (by kernel_rfl) ?_
        repeat (first
          | go_big_quiet_skip
          | (go_big_quiet_want; go_big_quiet_op; go_big_quiet_on)
          | (go_big_quiet_want; go_big_quiet_op; apply Exists.intro; refine ⟨fun _ hb' => ?_, ?_⟩; (first
            | exact Lw.val_rfl _
            | (go_at_call 24; exact Lw.calls_below hb' (HRk.out _ hb'))
            | (simp [go_sem, (HC.out _ hb').1]; rfl)
            | (simp [go_sem, (HC.out _ hb').2]; rfl)
            | (simp [go_sem, (HR2.out _ hb').mat.1, (HR2.out _ hb').mat.2.1, (HR2.out _ hb').mat.2.2.1, (HR2.out _ hb').mat.2.2.2.1, (HR2.out _ hb').mat.2.2.2.2.1, (HR2.out _ hb').mat.2.2.2.2.2.1, (HR2.out _ hb').mat.2.2.2.2.2.2.1, (HR2.out _ hb').mat.2.2.2.2.2.2.2.1, (HR2.out _ hb').mat.2.2.2.2.2.2.2.2.1, (HR2.out _ hb').mat.2.2.2.2.2.2.2.2.2.1, (HR2.out _ hb').mat.2.2.2.2.2.2.2.2.2.2]; rfl)); go_big_quiet_on))
        refine wpQuiet_nil ?_
        intro wz hbz
        have HBz : Hid (Below wB.heap.size wB wz) := HB.out.trans (hbz.mono HB.out.size)
        clear hbz
        go_wp2_with fail
        go_roundw
        case rel => exact ⟨k + 1, by omega, rfl, HBz, HF2⟩
        case measure => simp only [intOf]; omega
    · have ki : ¬ ((k : Int) < (m.masters.length : Int)) := by omega
      have HRf : Hid ((R1, R2) = Lq.scan (Lq.eFind m) m.messages.length 0) := by
        show _ = _
        rw [HRe.out, Lq.scan_none (fun j _ hj => HF.out j (by omega))]
        rfl
      clear HRe HF
      go_wp2_with fail
      clear y8
      go_loopw [5, 6] (fun vi _v wr => ∃ k : Nat, k ≤ m.messages.length ∧ vi = .int .i64 (k : Int) ∧ Hid (Below wB.heap.size wB wr) ∧ Hid (∀ j, j < k → Lq.eFind m j = 0)) (fun vi _ _ => m.messages.length - (intOf vi).toNat)
      case atStart => exact ⟨0, Nat.zero_le _, rfl, HB, fun c hc => absurd hc (Nat.not_lt_zero _)⟩
      case round =>
        clear HB ki hk hkl
        obtain ⟨k, hk, rfl, HB, HF⟩ := hrel
        obtain ⟨y0, y1, y2, y3, y4, y5, y6, y7, y8, y9, y10⟩ := (HR.out _ HB.out).mat
        by_cases hkl : k < m.messages.length
        · have ki : (k : Int) < (m.messages.length : Int) := by omega
          obtain ⟨x, hx⟩ : ∃ x, m.messages[k]? = some x := ⟨_, List.getElem?_eq_getElem hkl⟩
          obtain ⟨g, o, hs, _, z0, _, _⟩ := (HX.out.on HB.out).mem.message hx
          have HY7 : Hid (∀ w', Below wr.heap.size wr w' → w'.cell? ⟨w.heap.size, 7, none⟩ = some (.int .u32 (m.ref : Int))) := fun w' hb => (HR.out _ (HB.out.trans (hb.mono HB.out.size))).mat.2.2.2.2.2.2.2.1
          have hfn := rfind_any wr m a false false x.id ByteArray.empty (HX.out.on HB.out).mem HS.out
          have HEk : Hid (Lq.eFind m k = if Mx.find m false false x.id < (k : Int) ∨ x.id / 8 = m.ref / 8 then 142 else 0) := by show _ = _; unfold Lq.eFind; rw [hx]
          have hid := (HWf.out.messages x (List.mem_of_getElem? hx)).1
          have hrf := HWf.out.ref
          rw [hs] at y9
          generalize Mx.find m false false x.id = V at *
          clear hx
          by_cases hv : V < (k : Int)
          · have hE : Lq.eFind m k = 142 := by rw [HEk.out, if_pos (Or.inl hv)]
            have hsc := Lq.scan_some (f := Lq.eFind m) (j := k) (n := m.messages.length) (k := 0) (by rw [hE]; decide) (Nat.zero_le _) (by omega) (fun i _ h => HF.out i h)
            have hRR : R1 = (k : Int) ∧ R2 = 142 := by
              have := HRf.out
              rw [hsc, hE] at this
              exact ⟨(Prod.mk.inj this).1, (Prod.mk.inj this).2⟩
            obtain ⟨rfl, rfl⟩ := hRR
            clear hsc hE HRf HEk hid hrf
            go_wp2_with fail
            rw [← hs] at y9 ⊢
            refine hfn.mono ?_
            rintro e wz ⟨rfl, hb⟩
            have HBz : Hid (Below w.heap.size w wz) := (HX.out.on (HB.out.trans (hb.mono HB.out.size))).below
            clear hb hfn y0 y1 y2 y3 y4 y5 y6 y7 y8 y9 y10 z0
            go_wp2
            go_ret2
            exact ⟨rfl, HBz.out⟩
          · cases hq : ((x.id : Int) / 8 % 4294967296 == (m.ref : Int) / 8 % 4294967296)
            · have hne : ¬ (x.id / 8 = m.ref / 8) := fun e => by
                have := beq_eq_false_iff_ne.1 hq
                exact this (by omega)
              have hE : Lq.eFind m k = 0 := by rw [HEk.out, if_neg (fun h => h.elim hv hne)]
              have HF2 : Hid (∀ j, j < k + 1 → Lq.eFind m j = 0) := Lq.upto HF.out hE
              clear hE HEk hid hrf hne
              go_wp2_with fail
              rw [← hs] at y9 ⊢
              refine hfn.mono ?_
              rintro e wz ⟨rfl, hb⟩
              have HBz : Hid (Below wB.heap.size wB wz) := HB.out.trans (hb.mono HB.out.size)
              have y7z := HY7.out _ hb
              clear hb hfn y0 y1 y2 y3 y4 y5 y6 y7 y8 y9 y10 z0
              go_wp2_with fail
              go_roundw
              case rel => exact ⟨k + 1, by omega, rfl, HBz, HF2⟩
              case measure => simp only [intOf]; omega
            · have he : x.id / 8 = m.ref / 8 := by
                have := beq_iff_eq.1 hq
                omega
              have hE : Lq.eFind m k = 142 := by rw [HEk.out, if_pos (Or.inr he)]
              have hsc := Lq.scan_some (f := Lq.eFind m) (j := k) (n := m.messages.length) (k := 0) (by rw [hE]; decide) (Nat.zero_le _) (by omega) (fun i _ h => HF.out i h)
              have hRR : R1 = (k : Int) ∧ R2 = 142 := by
                have := HRf.out
                rw [hsc, hE] at this
                exact ⟨(Prod.mk.inj this).1, (Prod.mk.inj this).2⟩
              obtain ⟨rfl, rfl⟩ := hRR
              clear hsc hE HRf HEk hid hrf he
              go_wp2_with fail
              rw [← hs] at y9 ⊢
              refine hfn.mono ?_
              rintro e wz ⟨rfl, hb⟩
              have HBz : Hid (Below w.heap.size w wz) := (HX.out.on (HB.out.trans (hb.mono HB.out.size))).below
              have y7z := HY7.out _ hb
              clear hb hfn y0 y1 y2 y3 y4 y5 y6 y7 y8 y9 y10 z0
              go_wp2
              go_ret2
              exact ⟨rfl, HBz.out⟩
        · have ki : ¬ ((k : Int) < (m.messages.length : Int)) := by omega
          have hRR : R1 = 0 ∧ R2 = 0 := by
            have := HRf.out
            rw [Lq.scan_none (fun j _ hj => HF.out j (by omega))] at this
            exact ⟨(Prod.mk.inj this).1, (Prod.mk.inj this).2⟩
          obtain ⟨rfl, rfl⟩ := hRR
          have HBz : Hid (Below w.heap.size w wr) := (HX.out.on HB.out).below
          go_wp2
          go_ret2
          exact ⟨rfl, HBz.out⟩
end Go.Proofs.YtnbfnipdiffphaaDoor
