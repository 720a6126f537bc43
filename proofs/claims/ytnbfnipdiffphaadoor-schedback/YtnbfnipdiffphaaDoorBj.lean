/- The document's matrices: Is and Check of whatever matrix, however long its lists are. -/
import Derived.Test.YtnbfnipdiffphaaDoorUp
namespace Go.Proofs.YtnbfnipdiffphaaDoor
open Go.RowKit Go.WideShapes
set_option linter.unusedVariables false
theorem small_lens {m : Mx.M} (h : Mx.lens m = true) : Mx.Small m := by
  simp only [Mx.lens, Mx.within, Bool.and_eq_true, decide_eq_true_eq] at h
  exact ⟨by omega, by omega, by omega⟩
set_option maxRecDepth 100000 in
set_option maxHeartbeats 16000000 in
theorem ris_lens (w : World) (m : Mx.M) (a : Ma) (hle : Mx.lens m = false) : Calls Tryd.prog 29 #[mV m a] w fun e w' => e = .returned (.bool false) ∧ Below w.heap.size w w' := by
  have HR : Hid (RowT 27 (w.alloc (.cells (mCs m a) 27)) w.heap.size (mCs m a)) := RowT.new _ _ _
  have HB : Hid (Below w.heap.size w (w.alloc (.cells (mCs m a) 27))) := (Below.refl _ _).alloc (Nat.le_refl _) _
  obtain ⟨y0, y1, y2, y3, y4, y5, y6, y7, y8, y9, y10⟩ := HR.out.mat
  show Calls _ _ #[.agg (mCs m a)] _ _
  generalize mCs m a = cs at HR HB y0 y1 y2 y3 y4 y5 y6 y7 y8 y9 y10 ⊢
  clear HR
  go_enter Tryd.func29, Tryd.ntmps29
  go_upto_region 1 with fail
  generalize w.alloc (.cells cs 27) = wB at HB y0 y1 y2 y3 y4 y5 y6 y7 y8 y9 y10 ⊢
  go_upto_region 1 with fail
  go_cut [46] from 7 (fun v wx => v = .bool (!Mx.scal m) ∧ wx = wB)
  case first =>
    cases h1 : Mx.within m.level 1 2
    · skip
      as_aux_lemma =>
        go_wp2_with (first | (go_at_call 37; refine (rwithin_any _ _ _ _).mono ?_; rintro e w' ⟨rfl, hw⟩; rw [hw]; clear hw) | (go_at_call 38; refine (rpower_any _ _ _).mono ?_; rintro e w' ⟨rfl, hw⟩; rw [hw]; clear hw))
        all_goals
          go_meet
          case rel => exact ⟨by first | (simp [Mx.scal, h1]; done) | (simp [Mx.scal, h1]; omega) | simp_all [Mx.scal, h1], rfl⟩
    · skip
      cases h2 : Mx.within m.nodes 1 8
      · skip
        as_aux_lemma =>
          go_wp2_with (first | (go_at_call 37; refine (rwithin_any _ _ _ _).mono ?_; rintro e w' ⟨rfl, hw⟩; rw [hw]; clear hw) | (go_at_call 38; refine (rpower_any _ _ _).mono ?_; rintro e w' ⟨rfl, hw⟩; rw [hw]; clear hw))
          all_goals
            go_meet
            case rel => exact ⟨by first | (simp [Mx.scal, h1, h2]; done) | (simp [Mx.scal, h1, h2]; omega) | simp_all [Mx.scal, h1, h2], rfl⟩
      · skip
        cases h3 : Mx.power m.cycles 8
        · skip
          as_aux_lemma =>
            go_wp2_with (first | (go_at_call 37; refine (rwithin_any _ _ _ _).mono ?_; rintro e w' ⟨rfl, hw⟩; rw [hw]; clear hw) | (go_at_call 38; refine (rpower_any _ _ _).mono ?_; rintro e w' ⟨rfl, hw⟩; rw [hw]; clear hw))
            all_goals
              go_meet
              case rel => exact ⟨by first | (simp [Mx.scal, h1, h2, h3]; done) | (simp [Mx.scal, h1, h2, h3]; omega) | simp_all [Mx.scal, h1, h2, h3], rfl⟩
        · skip
          cases h4 : Mx.within m.length 1 4000
          · skip
            as_aux_lemma =>
              go_wp2_with (first | (go_at_call 37; refine (rwithin_any _ _ _ _).mono ?_; rintro e w' ⟨rfl, hw⟩; rw [hw]; clear hw) | (go_at_call 38; refine (rpower_any _ _ _).mono ?_; rintro e w' ⟨rfl, hw⟩; rw [hw]; clear hw))
              all_goals
                go_meet
                case rel => exact ⟨by first | (simp [Mx.scal, h1, h2, h3, h4]; done) | (simp [Mx.scal, h1, h2, h3, h4]; omega) | simp_all [Mx.scal, h1, h2, h3, h4], rfl⟩
          · skip
            cases h5 : Mx.within m.enable 1 16
            · skip
              as_aux_lemma =>
                go_wp2_with (first | (go_at_call 37; refine (rwithin_any _ _ _ _).mono ?_; rintro e w' ⟨rfl, hw⟩; rw [hw]; clear hw) | (go_at_call 38; refine (rpower_any _ _ _).mono ?_; rintro e w' ⟨rfl, hw⟩; rw [hw]; clear hw))
                all_goals
                  go_meet
                  case rel => exact ⟨by first | (simp [Mx.scal, h1, h2, h3, h4, h5]; done) | (simp [Mx.scal, h1, h2, h3, h4, h5]; omega) | simp_all [Mx.scal, h1, h2, h3, h4, h5], rfl⟩
            · skip
              cases h6 : Mx.within m.unit 1 64
              · skip
                as_aux_lemma =>
                  go_wp2_with (first | (go_at_call 37; refine (rwithin_any _ _ _ _).mono ?_; rintro e w' ⟨rfl, hw⟩; rw [hw]; clear hw) | (go_at_call 38; refine (rpower_any _ _ _).mono ?_; rintro e w' ⟨rfl, hw⟩; rw [hw]; clear hw))
                  all_goals
                    go_meet
                    case rel => exact ⟨by first | (simp [Mx.scal, h1, h2, h3, h4, h5, h6]; done) | (simp [Mx.scal, h1, h2, h3, h4, h5, h6]; omega) | simp_all [Mx.scal, h1, h2, h3, h4, h5, h6], rfl⟩
              · skip
                cases h7 : Mx.within m.init 0 8000
                · skip
                  as_aux_lemma =>
                    go_wp2_with (first | (go_at_call 37; refine (rwithin_any _ _ _ _).mono ?_; rintro e w' ⟨rfl, hw⟩; rw [hw]; clear hw) | (go_at_call 38; refine (rpower_any _ _ _).mono ?_; rintro e w' ⟨rfl, hw⟩; rw [hw]; clear hw))
                    all_goals
                      go_meet
                      case rel => exact ⟨by first | (simp [Mx.scal, h1, h2, h3, h4, h5, h6, h7]; done) | (simp [Mx.scal, h1, h2, h3, h4, h5, h6, h7]; omega) | simp_all [Mx.scal, h1, h2, h3, h4, h5, h6, h7], rfl⟩
                · skip
                  as_aux_lemma =>
                    go_wp2_with (first | (go_at_call 37; refine (rwithin_any _ _ _ _).mono ?_; rintro e w' ⟨rfl, hw⟩; rw [hw]; clear hw) | (go_at_call 38; refine (rpower_any _ _ _).mono ?_; rintro e w' ⟨rfl, hw⟩; rw [hw]; clear hw))
                    all_goals
                      go_meet
                      case rel => exact ⟨by first | (simp [Mx.scal, h1, h2, h3, h4, h5, h6, h7]; done) | (simp [Mx.scal, h1, h2, h3, h4, h5, h6, h7]; omega) | simp_all [Mx.scal, h1, h2, h3, h4, h5, h6, h7], rfl⟩
  case rest =>
    obtain ⟨rfl, hwc⟩ := hcut
    rw [hwc]
    clear hwc
    cases hsc : Mx.scal m
    · skip
      go_wp2
      go_ret
      exact ⟨rfl, HB.out⟩
    · skip
      go_upto_region 3 with fail
      go_cut [74] from 7 (fun v wx => v = .bool (!Mx.lens m) ∧ wx = wB)
      case first =>
        by_cases h1 : m.ref < 2048
        · skip
          have h1a : ¬ ((2048 : Int) ≤ (m.ref : Int)) := by omega
          have h1b : (m.ref : Int) < 2048 := by omega
          by_cases h2 : m.ref % 8 = 0
          · skip
            have h2a : (m.ref : Int) % 8 = 0 := by omega
            have h2b : (m.ref : Int).tmod 8 = 0 := by rw [Int.tmod_eq_emod_of_nonneg (by omega)]; exact h2a
            cases h3 : Mx.within (m.masters.length : Int) 1 4
            · skip
              as_aux_lemma =>
                go_wp2_with (first | (go_at_call 37; refine (rwithin_any _ _ _ _).mono ?_; rintro e w' ⟨rfl, hw⟩; rw [hw]; clear hw) | (go_at_call 38; refine (rpower_any _ _ _).mono ?_; rintro e w' ⟨rfl, hw⟩; rw [hw]; clear hw))
                all_goals
                  go_meet
                  case rel => exact ⟨by first | (simp [Mx.lens, h1, h2, h3]; done) | (simp [Mx.lens, h1, h2, h3]; omega) | simp_all [Mx.lens, h1, h2, h3], rfl⟩
            · skip
              by_cases h4 : m.messages.length ≤ 12
              · skip
                have h4a : ¬ ((12 : Int) < (m.messages.length : Int)) := by omega
                have h4b : (m.messages.length : Int) ≤ 12 := by omega
                by_cases h5 : m.windows.length ≤ 16
                · skip
                  have h5a : ¬ ((16 : Int) < (m.windows.length : Int)) := by omega
                  have h5b : (m.windows.length : Int) ≤ 16 := by omega
                  as_aux_lemma =>
                    go_wp2_with (first | (go_at_call 37; refine (rwithin_any _ _ _ _).mono ?_; rintro e w' ⟨rfl, hw⟩; rw [hw]; clear hw) | (go_at_call 38; refine (rpower_any _ _ _).mono ?_; rintro e w' ⟨rfl, hw⟩; rw [hw]; clear hw))
                    all_goals
                      go_meet
                      case rel => exact ⟨by first | (simp [Mx.lens, h1, h2, h3, h4, h5]; done) | (simp [Mx.lens, h1, h2, h3, h4, h5]; omega) | simp_all [Mx.lens, h1, h2, h3, h4, h5], rfl⟩
                · skip
                  have h5a : (16 : Int) < (m.windows.length : Int) := by omega
                  have h5b : ¬ ((m.windows.length : Int) ≤ 16) := by omega
                  as_aux_lemma =>
                    go_wp2_with (first | (go_at_call 37; refine (rwithin_any _ _ _ _).mono ?_; rintro e w' ⟨rfl, hw⟩; rw [hw]; clear hw) | (go_at_call 38; refine (rpower_any _ _ _).mono ?_; rintro e w' ⟨rfl, hw⟩; rw [hw]; clear hw))
                    all_goals
                      go_meet
                      case rel => exact ⟨by first | (simp [Mx.lens, h1, h2, h3, h4, h5]; done) | (simp [Mx.lens, h1, h2, h3, h4, h5]; omega) | simp_all [Mx.lens, h1, h2, h3, h4, h5], rfl⟩
              · skip
                have h4a : (12 : Int) < (m.messages.length : Int) := by omega
                have h4b : ¬ ((m.messages.length : Int) ≤ 12) := by omega
                as_aux_lemma =>
                  go_wp2_with (first | (go_at_call 37; refine (rwithin_any _ _ _ _).mono ?_; rintro e w' ⟨rfl, hw⟩; rw [hw]; clear hw) | (go_at_call 38; refine (rpower_any _ _ _).mono ?_; rintro e w' ⟨rfl, hw⟩; rw [hw]; clear hw))
                  all_goals
                    go_meet
                    case rel => exact ⟨by first | (simp [Mx.lens, h1, h2, h3, h4]; done) | (simp [Mx.lens, h1, h2, h3, h4]; omega) | simp_all [Mx.lens, h1, h2, h3, h4], rfl⟩
          · skip
            have h2a : ((m.ref : Int) % 8 == 0) = false := beq_eq_false_iff_ne.2 (by omega)
            have h2b : ((m.ref : Int).tmod 8 == 0) = false := by rw [Int.tmod_eq_emod_of_nonneg (by omega)]; exact h2a
            as_aux_lemma =>
              go_wp2_with (first | (go_at_call 37; refine (rwithin_any _ _ _ _).mono ?_; rintro e w' ⟨rfl, hw⟩; rw [hw]; clear hw) | (go_at_call 38; refine (rpower_any _ _ _).mono ?_; rintro e w' ⟨rfl, hw⟩; rw [hw]; clear hw))
              all_goals
                go_meet
                case rel => exact ⟨by first | (simp [Mx.lens, h1, h2]; done) | (simp [Mx.lens, h1, h2]; omega) | simp_all [Mx.lens, h1, h2], rfl⟩
        · skip
          have h1a : (2048 : Int) ≤ (m.ref : Int) := by omega
          have h1b : ¬ ((m.ref : Int) < 2048) := by omega
          as_aux_lemma =>
            go_wp2_with (first | (go_at_call 37; refine (rwithin_any _ _ _ _).mono ?_; rintro e w' ⟨rfl, hw⟩; rw [hw]; clear hw) | (go_at_call 38; refine (rpower_any _ _ _).mono ?_; rintro e w' ⟨rfl, hw⟩; rw [hw]; clear hw))
            all_goals
              go_meet
              case rel => exact ⟨by first | (simp [Mx.lens, h1]; done) | (simp [Mx.lens, h1]; omega) | simp_all [Mx.lens, h1], rfl⟩
      case rest =>
        obtain ⟨rfl, hwc⟩ := hcut
        rw [hwc]
        clear hwc
        rw [hle]
        go_wp2
        go_ret
        exact ⟨rfl, HB.out⟩
theorem ris_all (w : World) (m : Mx.M) (a : Ma) (hm : MIn w m a) : Calls Tryd.prog 29 #[mV m a] w fun e w' => e = .returned (.bool (Mx.is m)) ∧ Below w.heap.size w w' := by
  cases hle : Mx.lens m
  · rw [← (is_ways m).2.1 hle]
    exact ris_lens w m a hle
  · exact ris_any w m a hm (small_lens hle)
set_option maxRecDepth 100000 in
set_option maxHeartbeats 4000000 in
theorem rcheck_lens (w : World) (m : Mx.M) (a : Ma) (hle : Mx.lens m = false) : Calls Tryd.prog 18 #[mV m a] w fun e w' => e = .returned (.tuple #[.int .i64 0, .int .i64 120]) ∧ Below w.heap.size w w' := by
  have HR : Hid (RowT 27 (w.alloc (.cells (mCs m a) 27)) w.heap.size (mCs m a)) := RowT.new _ _ _
  have HB : Hid (Below w.heap.size w (w.alloc (.cells (mCs m a) 27))) := (Below.refl _ _).alloc (Nat.le_refl _) _
  obtain ⟨y0, y1, y2, y3, y4, y5, y6, y7, y8, y9, y10⟩ := HR.out.mat
  have HI : Hid (∀ w, Calls Tryd.prog 29 #[mV m a] w fun e w' => e = .returned (.bool false) ∧ Below w.heap.size w w') := fun w => ris_lens w m a hle
  clear hle HR
  go_enter Tryd.func18, Tryd.ntmps18
  go_wp2_with fail
  refine (HI.out _).mono ?_
  rintro e w1 ⟨rfl, hb⟩
  replace HB : Hid (Below w.heap.size w w1) := HB.out.trans (hb.mono HB.out.size)
  clear hb y0 y1 y2 y3 y4 y5 y6 y7 y8 y9 y10
  go_wp2
  exact bodyPost_ret (v := .tuple #[.int .i64 0, .int .i64 120]) (by simp [results, Tryd.results18, go_sem]) rfl ⟨rfl, HB.out⟩
theorem check_not {m : Mx.M} (h : Mx.is m = false) : Lq.check m = (0, 120) := by unfold Lq.check; rw [if_pos h]
theorem rcheck_all (w : World) (m : Mx.M) (a : Ma) (hm : MIn w m a) (hwf : Mx.Wf m) : Calls Tryd.prog 18 #[mV m a] w fun e w' => e = .returned (.tuple #[.int .i64 (Lq.check m).1, .int .i64 (Lq.check m).2]) ∧ Below w.heap.size w w' := by
  cases hle : Mx.lens m
  · rw [check_not ((is_ways m).2.1 hle).symm]
    exact rcheck_lens w m a hle
  · exact rcheck_any w m a hm (small_lens hle) hwf
end Go.Proofs.YtnbfnipdiffphaaDoor
