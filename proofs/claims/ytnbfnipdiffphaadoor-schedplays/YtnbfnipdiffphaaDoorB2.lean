/- The document's matrices, over their text: Is. -/
import Derived.Test.YtnbfnipdiffphaaDoorB1
import Derived.Deep.CutBlock
namespace Go.Proofs.YtnbfnipdiffphaaDoor
open Go.RowKit Go.WideShapes
set_option linter.unusedVariables false
/-- A row of tests, told one behind the other: the first that fails ends it. -/
theorem all_upto {α : Type} {p : α → Bool} {l : List α} (h : ∀ (j : Nat) y, l[j]? = some y → p y = true) : l.all p = true := by
  rw [List.all_eq_true]
  intro x hx
  obtain ⟨j, hj⟩ := List.getElem?_of_mem hx
  exact h j x hj
theorem all_not {α : Type} {p : α → Bool} {l : List α} {k : Nat} {x : α} (hx : l[k]? = some x) (h : p x = false) : l.all p = false := by
  rw [List.all_eq_false]
  exact ⟨x, List.mem_of_getElem? hx, by rw [h]; decide⟩
theorem true_succ {α : Type} {p : α → Bool} {l : List α} {k : Nat} {x : α} (hk : l[k]? = some x) (hb : ∀ j y, j < k → l[j]? = some y → p y = true) (hx : p x = true) : ∀ j y, j < k + 1 → l[j]? = some y → p y = true := fun j y hj hy => by
  rcases Nat.lt_or_eq_of_le (Nat.le_of_lt_succ hj) with h | h
  · exact hb j y h hy
  · subst h
    rw [hk] at hy
    injection hy with hy
    subst hy
    exact hx
theorem power_in {n most : Int} (h : Mx.power n most = true) : 1 ≤ n ∧ n ≤ 8 := by
  unfold Mx.power at h
  simp at h
  omega
theorem is_ways (m : Mx.M) : (Mx.scal m = false → false = Mx.is m) ∧ (Mx.lens m = false → false = Mx.is m) ∧ (m.masters.all (fun x => Mx.within x 0 99) = false → false = Mx.is m) ∧ (m.messages.all Mx.msgOk = false → false = Mx.is m) ∧ (m.windows.all (Mx.winOk m) = false → false = Mx.is m) ∧
    (Mx.scal m = true → Mx.lens m = true → m.masters.all (fun x => Mx.within x 0 99) = true → m.messages.all Mx.msgOk = true → m.windows.all (Mx.winOk m) = true → true = Mx.is m) := by
  unfold Mx.is
  cases Mx.scal m <;> cases Mx.lens m <;> cases m.masters.all (fun x => Mx.within x 0 99) <;> cases m.messages.all Mx.msgOk <;> cases m.windows.all (Mx.winOk m) <;> simp
set_option maxRecDepth 100000 in
set_option maxHeartbeats 16000000 in
theorem ris_any (w : World) (m : Mx.M) (a : Ma) (hm : MIn w m a) (hS : Mx.Small m) : Calls Tryd.prog 29 #[mV m a] w fun e w' => e = .returned (.bool (Mx.is m)) ∧ Below w.heap.size w w' := by
  have HX : Hid (Bx w (w.alloc (.cells (mCs m a) 27)) w.heap.size m a) := Bx.mk' hm
  have hl1 := hS.a
  have hl2 := hS.b
  have hl3 := hS.c
  have HI : Hid ((Mx.scal m = false → false = Mx.is m) ∧ (Mx.lens m = false → false = Mx.is m) ∧ (m.masters.all (fun x => Mx.within x 0 99) = false → false = Mx.is m) ∧ (m.messages.all Mx.msgOk = false → false = Mx.is m) ∧ (m.windows.all (Mx.winOk m) = false → false = Mx.is m) ∧ (Mx.scal m = true → Mx.lens m = true → m.masters.all (fun x => Mx.within x 0 99) = true → m.messages.all Mx.msgOk = true → m.windows.all (Mx.winOk m) = true → true = Mx.is m)) := is_ways m
  generalize Mx.is m = R at HI ⊢
  obtain ⟨y0, y1, y2, y3, y4, y5, y6, y7, y8, y9, y10⟩ := HX.out.row.mat
  show Calls _ _ #[.agg (mCs m a)] _ _
  generalize mCs m a = cs at HX y0 y1 y2 y3 y4 y5 y6 y7 y8 y9 y10 ⊢
  clear hm hS
  go_enter Tryd.func29, Tryd.ntmps29
  go_upto_region 1 with fail
  generalize w.alloc (.cells cs 27) = wB at HX y0 y1 y2 y3 y4 y5 y6 y7 y8 y9 y10 ⊢
  go_upto_region 1 with fail
  go_cut [46] from 7 (fun v wx => v = .bool (!Mx.scal m) ∧ wx = wB)
  case first =>
    cases h1 : Mx.within m.level 1 2
    · skip
      as_aux_lemma =>
        go_wp2_with (first | (go_at_call 37; refine (rwithin_any _ _ _ _).mono ?_; rintro e w' ⟨rfl, hw⟩; rw [hw]; clear hw) | (go_at_call 38; refine (rpower_any _ _ _).mono ?_; rintro e w' ⟨rfl, hw⟩; rw [hw]; clear hw))
        all_goals
          go_meet
          case rel => exact ⟨by first | (simp [Mx.scal, h1]; done) | (simp [Mx.scal, h1]; omega) | simp_all [Mx.scal, h1], rfl⟩
    · skip
      cases h2 : Mx.within m.nodes 1 8
      · skip
        as_aux_lemma =>
          go_wp2_with (first | (go_at_call 37; refine (rwithin_any _ _ _ _).mono ?_; rintro e w' ⟨rfl, hw⟩; rw [hw]; clear hw) | (go_at_call 38; refine (rpower_any _ _ _).mono ?_; rintro e w' ⟨rfl, hw⟩; rw [hw]; clear hw))
          all_goals
            go_meet
            case rel => exact ⟨by first | (simp [Mx.scal, h1, h2]; done) | (simp [Mx.scal, h1, h2]; omega) | simp_all [Mx.scal, h1, h2], rfl⟩
      · skip
        cases h3 : Mx.power m.cycles 8
        · skip
          as_aux_lemma =>
            go_wp2_with (first | (go_at_call 37; refine (rwithin_any _ _ _ _).mono ?_; rintro e w' ⟨rfl, hw⟩; rw [hw]; clear hw) | (go_at_call 38; refine (rpower_any _ _ _).mono ?_; rintro e w' ⟨rfl, hw⟩; rw [hw]; clear hw))
            all_goals
              go_meet
              case rel => exact ⟨by first | (simp [Mx.scal, h1, h2, h3]; done) | (simp [Mx.scal, h1, h2, h3]; omega) | simp_all [Mx.scal, h1, h2, h3], rfl⟩
        · skip
          cases h4 : Mx.within m.length 1 4000
          · skip
            as_aux_lemma =>
              go_wp2_with (first | (go_at_call 37; refine (rwithin_any _ _ _ _).mono ?_; rintro e w' ⟨rfl, hw⟩; rw [hw]; clear hw) | (go_at_call 38; refine (rpower_any _ _ _).mono ?_; rintro e w' ⟨rfl, hw⟩; rw [hw]; clear hw))
              all_goals
                go_meet
                case rel => exact ⟨by first | (simp [Mx.scal, h1, h2, h3, h4]; done) | (simp [Mx.scal, h1, h2, h3, h4]; omega) | simp_all [Mx.scal, h1, h2, h3, h4], rfl⟩
          · skip
            cases h5 : Mx.within m.enable 1 16
            · skip
              as_aux_lemma =>
                go_wp2_with (first | (go_at_call 37; refine (rwithin_any _ _ _ _).mono ?_; rintro e w' ⟨rfl, hw⟩; rw [hw]; clear hw) | (go_at_call 38; refine (rpower_any _ _ _).mono ?_; rintro e w' ⟨rfl, hw⟩; rw [hw]; clear hw))
                all_goals
                  go_meet
                  case rel => exact ⟨by first | (simp [Mx.scal, h1, h2, h3, h4, h5]; done) | (simp [Mx.scal, h1, h2, h3, h4, h5]; omega) | simp_all [Mx.scal, h1, h2, h3, h4, h5], rfl⟩
            · skip
              cases h6 : Mx.within m.unit 1 64
              · skip
                as_aux_lemma =>
                  go_wp2_with (first | (go_at_call 37; refine (rwithin_any _ _ _ _).mono ?_; rintro e w' ⟨rfl, hw⟩; rw [hw]; clear hw) | (go_at_call 38; refine (rpower_any _ _ _).mono ?_; rintro e w' ⟨rfl, hw⟩; rw [hw]; clear hw))
                  all_goals
                    go_meet
                    case rel => exact ⟨by first | (simp [Mx.scal, h1, h2, h3, h4, h5, h6]; done) | (simp [Mx.scal, h1, h2, h3, h4, h5, h6]; omega) | simp_all [Mx.scal, h1, h2, h3, h4, h5, h6], rfl⟩
              · skip
                cases h7 : Mx.within m.init 0 8000
                · skip
                  as_aux_lemma =>
                    go_wp2_with (first | (go_at_call 37; refine (rwithin_any _ _ _ _).mono ?_; rintro e w' ⟨rfl, hw⟩; rw [hw]; clear hw) | (go_at_call 38; refine (rpower_any _ _ _).mono ?_; rintro e w' ⟨rfl, hw⟩; rw [hw]; clear hw))
                    all_goals
                      go_meet
                      case rel => exact ⟨by first | (simp [Mx.scal, h1, h2, h3, h4, h5, h6, h7]; done) | (simp [Mx.scal, h1, h2, h3, h4, h5, h6, h7]; omega) | simp_all [Mx.scal, h1, h2, h3, h4, h5, h6, h7], rfl⟩
                · skip
                  as_aux_lemma =>
                    go_wp2_with (first | (go_at_call 37; refine (rwithin_any _ _ _ _).mono ?_; rintro e w' ⟨rfl, hw⟩; rw [hw]; clear hw) | (go_at_call 38; refine (rpower_any _ _ _).mono ?_; rintro e w' ⟨rfl, hw⟩; rw [hw]; clear hw))
                    all_goals
                      go_meet
                      case rel => exact ⟨by first | (simp [Mx.scal, h1, h2, h3, h4, h5, h6, h7]; done) | (simp [Mx.scal, h1, h2, h3, h4, h5, h6, h7]; omega) | simp_all [Mx.scal, h1, h2, h3, h4, h5, h6, h7], rfl⟩
  case rest =>
    obtain ⟨rfl, hwc⟩ := hcut
    rw [hwc]
    clear hwc
    cases hsc : Mx.scal m
    · have hR := HI.out.1 hsc
      subst hR
      go_wp2
      go_ret
      exact ⟨rfl, HX.out.below⟩
    · skip
      go_upto_region 3 with fail
      go_cut [74] from 7 (fun v wx => v = .bool (!Mx.lens m) ∧ wx = wB)
      case first =>
        by_cases h1 : m.ref < 2048
        · skip
          have h1a : ¬ ((2048 : Int) ≤ (m.ref : Int)) := by omega
          have h1b : (m.ref : Int) < 2048 := by omega
          by_cases h2 : m.ref % 8 = 0
          · skip
            have h2a : (m.ref : Int) % 8 = 0 := by omega
            have h2b : (m.ref : Int).tmod 8 = 0 := by rw [Int.tmod_eq_emod_of_nonneg (by omega)]; exact h2a
            cases h3 : Mx.within (m.masters.length : Int) 1 4
            · skip
              as_aux_lemma =>
                go_wp2_with (first | (go_at_call 37; refine (rwithin_any _ _ _ _).mono ?_; rintro e w' ⟨rfl, hw⟩; rw [hw]; clear hw) | (go_at_call 38; refine (rpower_any _ _ _).mono ?_; rintro e w' ⟨rfl, hw⟩; rw [hw]; clear hw))
                all_goals
                  go_meet
                  case rel => exact ⟨by first | (simp [Mx.lens, h1, h2, h3]; done) | (simp [Mx.lens, h1, h2, h3]; omega) | simp_all [Mx.lens, h1, h2, h3], rfl⟩
            · skip
              by_cases h4 : m.messages.length ≤ 12
              · skip
                have h4a : ¬ ((12 : Int) < (m.messages.length : Int)) := by omega
                have h4b : (m.messages.length : Int) ≤ 12 := by omega
                by_cases h5 : m.windows.length ≤ 16
                · skip
                  have h5a : ¬ ((16 : Int) < (m.windows.length : Int)) := by omega
                  have h5b : (m.windows.length : Int) ≤ 16 := by omega
                  as_aux_lemma =>
                    go_wp2_with (first | (go_at_call 37; refine (rwithin_any _ _ _ _).mono ?_; rintro e w' ⟨rfl, hw⟩; rw [hw]; clear hw) | (go_at_call 38; refine (rpower_any _ _ _).mono ?_; rintro e w' ⟨rfl, hw⟩; rw [hw]; clear hw))
                    all_goals
                      go_meet
                      case rel => exact ⟨by first | (simp [Mx.lens, h1, h2, h3, h4, h5]; done) | (simp [Mx.lens, h1, h2, h3, h4, h5]; omega) | simp_all [Mx.lens, h1, h2, h3, h4, h5], rfl⟩
                · skip
                  have h5a : (16 : Int) < (m.windows.length : Int) := by omega
                  have h5b : ¬ ((m.windows.length : Int) ≤ 16) := by omega
                  as_aux_lemma =>
                    go_wp2_with (first | (go_at_call 37; refine (rwithin_any _ _ _ _).mono ?_; rintro e w' ⟨rfl, hw⟩; rw [hw]; clear hw) | (go_at_call 38; refine (rpower_any _ _ _).mono ?_; rintro e w' ⟨rfl, hw⟩; rw [hw]; clear hw))
                    all_goals
                      go_meet
                      case rel => exact ⟨by first | (simp [Mx.lens, h1, h2, h3, h4, h5]; done) | (simp [Mx.lens, h1, h2, h3, h4, h5]; omega) | simp_all [Mx.lens, h1, h2, h3, h4, h5], rfl⟩
              · skip
                have h4a : (12 : Int) < (m.messages.length : Int) := by omega
                have h4b : ¬ ((m.messages.length : Int) ≤ 12) := by omega
                as_aux_lemma =>
                  go_wp2_with (first | (go_at_call 37; refine (rwithin_any _ _ _ _).mono ?_; rintro e w' ⟨rfl, hw⟩; rw [hw]; clear hw) | (go_at_call 38; refine (rpower_any _ _ _).mono ?_; rintro e w' ⟨rfl, hw⟩; rw [hw]; clear hw))
                  all_goals
                    go_meet
                    case rel => exact ⟨by first | (simp [Mx.lens, h1, h2, h3, h4]; done) | (simp [Mx.lens, h1, h2, h3, h4]; omega) | simp_all [Mx.lens, h1, h2, h3, h4], rfl⟩
          · skip
            have h2a : ((m.ref : Int) % 8 == 0) = false := beq_eq_false_iff_ne.2 (by omega)
            have h2b : ((m.ref : Int).tmod 8 == 0) = false := by rw [Int.tmod_eq_emod_of_nonneg (by omega)]; exact h2a
            as_aux_lemma =>
              go_wp2_with (first | (go_at_call 37; refine (rwithin_any _ _ _ _).mono ?_; rintro e w' ⟨rfl, hw⟩; rw [hw]; clear hw) | (go_at_call 38; refine (rpower_any _ _ _).mono ?_; rintro e w' ⟨rfl, hw⟩; rw [hw]; clear hw))
              all_goals
                go_meet
                case rel => exact ⟨by first | (simp [Mx.lens, h1, h2]; done) | (simp [Mx.lens, h1, h2]; omega) | simp_all [Mx.lens, h1, h2], rfl⟩
        · skip
          have h1a : (2048 : Int) ≤ (m.ref : Int) := by omega
          have h1b : ¬ ((m.ref : Int) < 2048) := by omega
          as_aux_lemma =>
            go_wp2_with (first | (go_at_call 37; refine (rwithin_any _ _ _ _).mono ?_; rintro e w' ⟨rfl, hw⟩; rw [hw]; clear hw) | (go_at_call 38; refine (rpower_any _ _ _).mono ?_; rintro e w' ⟨rfl, hw⟩; rw [hw]; clear hw))
            all_goals
              go_meet
              case rel => exact ⟨by first | (simp [Mx.lens, h1]; done) | (simp [Mx.lens, h1]; omega) | simp_all [Mx.lens, h1], rfl⟩
      case rest =>
        obtain ⟨rfl, hwc⟩ := hcut
        rw [hwc]
        clear hwc
        cases hle : Mx.lens m
        · have hR := HI.out.2.1 hle
          subst hR
          go_wp2
          go_ret
          exact ⟨rfl, HX.out.below⟩
        · skip
          have HL1 : Hid (∀ k, k < m.masters.length → ∃ x, m.masters[k]? = some x) := fun k hk => ⟨_, List.getElem?_eq_getElem hk⟩
          have HL2 : Hid (∀ k, k < m.messages.length → ∃ x, m.messages[k]? = some x) := fun k hk => ⟨_, List.getElem?_eq_getElem hk⟩
          have HL3 : Hid (∀ k, k < m.windows.length → ∃ x, m.windows[k]? = some x) := fun k hk => ⟨_, List.getElem?_eq_getElem hk⟩
          have HE1 : Hid ((∀ (j : Nat) y, j < m.masters.length → m.masters[j]? = some y → Mx.within y 0 99 = true) → m.masters.all (fun x => Mx.within x 0 99) = true) := fun h => all_upto (fun j y hy => h j y (List.getElem?_eq_some_iff.1 hy).1 hy)
          have HE2 : Hid ((∀ (j : Nat) y, j < m.messages.length → m.messages[j]? = some y → Mx.msgOk y = true) → m.messages.all Mx.msgOk = true) := fun h => all_upto (fun j y hy => h j y (List.getElem?_eq_some_iff.1 hy).1 hy)
          have HE3 : Hid ((∀ (j : Nat) y, j < m.windows.length → m.windows[j]? = some y → Mx.winOk m y = true) → m.windows.all (Mx.winOk m) = true) := fun h => all_upto (fun j y hy => h j y (List.getElem?_eq_some_iff.1 hy).1 hy)
          obtain ⟨n1, hn1⟩ : ∃ n1, m.masters.length = n1 := ⟨_, rfl⟩
          obtain ⟨n2, hn2⟩ : ∃ n2, m.messages.length = n2 := ⟨_, rfl⟩
          obtain ⟨n3, hn3⟩ : ∃ n3, m.windows.length = n3 := ⟨_, rfl⟩
          have HN : Hid (m.masters.length = n1 ∧ m.messages.length = n2 ∧ m.windows.length = n3) := ⟨hn1, hn2, hn3⟩
          rw [hn1] at hl1 HL1 HE1 y8
          rw [hn2] at hl2 HL2 HE2 y9
          rw [hn3] at hl3 HL3 HE3 y10
          clear hn1 hn2 hn3
          go_wp2_with fail
          go_loopw [3] (fun i wr => ∃ k : Nat, k ≤ n1 ∧ i = .int .i64 k ∧ Hid (Bx w wr w.heap.size m a) ∧ Hid (∀ (j : Nat) y, j < k → m.masters[j]? = some y → Mx.within y 0 99 = true)) (fun i _ => n1 - (intOf i).toNat)
          case atStart => exact ⟨0, Nat.zero_le _, rfl, HX, fun j y h => absurd h (Nat.not_lt_zero _)⟩
          case round =>
            clear HX y0 y1 y2 y3 y4 y5 y6 y7 y8 y9 y10
            obtain ⟨k, hk, rfl, HX, HF⟩ := hrel
            obtain ⟨_, _, _, _, _, _, _, _, y8, y9, y10⟩ := HX.out.row.mat
            rw [HN.out.1] at y8
            rw [HN.out.2.1] at y9
            rw [HN.out.2.2] at y10
            by_cases hlt : k < n1
            · obtain ⟨x, hx⟩ := HL1.out k hlt
              obtain ⟨g, o, hs, hg, hc⟩ := HX.out.mem.master hx
              rw [hs] at y8
              cases hw : Mx.within x 0 99
              · have hR := HI.out.2.2.1 (all_not (p := fun x => Mx.within x 0 99) hx hw)
                subst hR
                clear hx hs hg
                go_wp2_with (first | (go_at_call 37; refine (rwithin_any _ _ _ _).mono ?_; rintro e w' ⟨rfl, hw⟩; rw [hw]; clear hw) | (go_at_call 38; refine (rpower_any _ _ _).mono ?_; rintro e w' ⟨rfl, hw⟩; rw [hw]; clear hw))
                go_ret
                exact ⟨rfl, HX.out.below⟩
              · have HF2 := true_succ (p := fun y => Mx.within y 0 99) hx HF.out hw
                clear hx hs hg
                go_wp2_with fail
                refine (rwithin_any _ _ _ _).mono ?_
                rintro e w' ⟨rfl, hw'⟩
                rw [hw']
                clear hw'
                go_wp2
                refine ⟨⟨_, _, _, _, _, _, _, _, _, _, _, _, _, _, _, _, ⟨k + 1, by omega, by simp, HX, HF2⟩, rfl⟩, ?_⟩
                simp [intOf]
                omega
            · have hkl : k = n1 := by omega
              have HA1 : Hid (m.masters.all (fun x => Mx.within x 0 99) = true) := HE1.out (fun j y hj hy => HF.out j y (by omega) hy)
              clear HF HE1 HL1
              subst hkl
              go_wp2_with fail
              go_loopw [4] (fun i wr => ∃ k : Nat, k ≤ n2 ∧ i = .int .i64 k ∧ Hid (Bx w wr w.heap.size m a) ∧ Hid (∀ (j : Nat) y, j < k → m.messages[j]? = some y → Mx.msgOk y = true)) (fun i _ => n2 - (intOf i).toNat)
              case atStart => exact ⟨0, Nat.zero_le _, rfl, HX, fun j y h => absurd h (Nat.not_lt_zero _)⟩
              case round =>
                clear HX y8 y9 y10
                obtain ⟨k2, hk2, rfl, HX, HF⟩ := hrel
                obtain ⟨_, _, _, _, _, _, _, _, _, y9, y10⟩ := HX.out.row.mat
                rw [HN.out.2.1] at y9
                rw [HN.out.2.2] at y10
                by_cases hlt2 : k2 < n2
                · obtain ⟨x, hx⟩ := HL2.out k2 hlt2
                  obtain ⟨g, o, hs, hg, c0, c1, c2⟩ := HX.out.mem.message hx
                  rw [hs] at y9
                  by_cases hid : x.id < 2048
                  · have i1 : (x.id : Int) < 2048 := by omega
                    have i2 : ¬ ((2048 : Int) ≤ (x.id : Int)) := by omega
                    cases hw : Mx.within x.owner 0 99
                    · have hR := HI.out.2.2.2.1 (all_not (p := Mx.msgOk) hx (by simp [Mx.msgOk, hw]))
                      subst hR
                      clear hx hs hg
                      go_wp2_with (first | (go_at_call 37; refine (rwithin_any _ _ _ _).mono ?_; rintro e w' ⟨rfl, hw⟩; rw [hw]; clear hw) | (go_at_call 38; refine (rpower_any _ _ _).mono ?_; rintro e w' ⟨rfl, hw⟩; rw [hw]; clear hw))
                      go_ret
                      exact ⟨rfl, HX.out.below⟩
                    · have HF2 := true_succ (p := Mx.msgOk) hx HF.out (by simp [Mx.msgOk, hw, hid])
                      clear hx hs hg
                      go_wp2_with fail
                      refine (rwithin_any _ _ _ _).mono ?_
                      rintro e w' ⟨rfl, hw'⟩
                      rw [hw']
                      clear hw'
                      go_wp2
                      refine ⟨⟨_, _, _, _, _, _, _, _, _, _, _, _, _, _, _, _, _, _, _, _, _, _, _, _, _, _, ⟨k2 + 1, by omega, by simp, HX, HF2⟩, rfl⟩, ?_⟩
                      simp [intOf]
                      omega
                  · have i1 : ¬ ((x.id : Int) < 2048) := by omega
                    have i2 : (2048 : Int) ≤ (x.id : Int) := by omega
                    have hR := HI.out.2.2.2.1 (all_not (p := Mx.msgOk) hx (by simp [Mx.msgOk, hid]))
                    subst hR
                    clear hx hs hg
                    go_wp2_with (first | (go_at_call 37; refine (rwithin_any _ _ _ _).mono ?_; rintro e w' ⟨rfl, hw⟩; rw [hw]; clear hw) | (go_at_call 38; refine (rpower_any _ _ _).mono ?_; rintro e w' ⟨rfl, hw⟩; rw [hw]; clear hw))
                    go_ret
                    exact ⟨rfl, HX.out.below⟩
                · have hkl2 : k2 = n2 := by omega
                  have HA2 : Hid (m.messages.all Mx.msgOk = true) := HE2.out (fun j y hj hy => HF.out j y (by omega) hy)
                  clear HF HE2 HL2
                  subst hkl2
                  go_wp2_with fail
                  go_loopw [5] (fun i wr => ∃ k : Nat, k ≤ n3 ∧ i = .int .i64 k ∧ Hid (Bx w wr w.heap.size m a) ∧ Hid (∀ (j : Nat) y, j < k → m.windows[j]? = some y → Mx.winOk m y = true)) (fun i _ => n3 - (intOf i).toNat)
                  case atStart => exact ⟨0, Nat.zero_le _, rfl, HX, fun j y h => absurd h (Nat.not_lt_zero _)⟩
                  case round =>
                    clear HX y9 y10
                    obtain ⟨k3, hk3, rfl, HX, HF⟩ := hrel
                    obtain ⟨_, _, y2, y3, _, _, _, _, _, _, y10⟩ := HX.out.row.mat
                    rw [HN.out.2.2] at y10
                    by_cases hlt3 : k3 < n3
                    · obtain ⟨x, hx⟩ := HL3.out k3 hlt3
                      obtain ⟨g, o, hs, hg, c0, c1, c2, c3, c4, c5⟩ := HX.out.mem.window hx
                      rw [hs] at y10
                      have c0' : ∀ ob, (wr.alloc ob).cell? ⟨g, o + k3 * 6, none⟩ = some (.int .i64 x.kind) := fun ob => (((Below.refl _ _).alloc (Nat.le_refl _) ob).cell (p := ⟨g, o + k3 * 6, none⟩) hg).trans c0
                      have HXw : Hid (Bx w (wr.alloc (.cells #[.int .i64 x.kind, .int .i64 x.start, .int .i64 x.fin, .int .i64 x.cycle, .int .i64 x.rep, .int .i64 x.msg] 58)) w.heap.size m a) := HX.out.on ((Below.refl _ _).alloc (Nat.le_refl _) _)
                      have HRw : Hid (RowT 58 (wr.alloc (.cells #[.int .i64 x.kind, .int .i64 x.start, .int .i64 x.fin, .int .i64 x.cycle, .int .i64 x.rep, .int .i64 x.msg] 58)) wr.heap.size #[.int .i64 x.kind, .int .i64 x.start, .int .i64 x.fin, .int .i64 x.cycle, .int .i64 x.rep, .int .i64 x.msg]) := RowT.new _ _ _
                      have HX3 : Hid (m.windows[k3]? = some x) := hx
                      clear hx hs
                      go_upto_region 19 with fail
                      obtain ⟨wS, hwS⟩ : ∃ wS, wS = wr.alloc (.cells #[.int .i64 x.kind, .int .i64 x.start, .int .i64 x.fin, .int .i64 x.cycle, .int .i64 x.rep, .int .i64 x.msg] 58) := ⟨_, rfl⟩
                      rw [← hwS] at HXw HRw ⊢
                      generalize wr.heap.size = gS at HRw ⊢
                      clear hwS y2 y3 y10 c0 c1 c2 c3 c4 c5 c0' hg HX
                      obtain ⟨_, _, y2, y3, _⟩ := HXw.out.row.mat
                      have z0 : wS.cell? ⟨gS, 0, none⟩ = some (.int .i64 x.kind) := HRw.out.c 0 _ rfl
                      have z1 : wS.cell? ⟨gS, 1, none⟩ = some (.int .i64 x.start) := HRw.out.c 1 _ rfl
                      have z2 : wS.cell? ⟨gS, 2, none⟩ = some (.int .i64 x.fin) := HRw.out.c 2 _ rfl
                      have z3 : wS.cell? ⟨gS, 3, none⟩ = some (.int .i64 x.cycle) := HRw.out.c 3 _ rfl
                      have z4 : wS.cell? ⟨gS, 4, none⟩ = some (.int .i64 x.rep) := HRw.out.c 4 _ rfl
                      have z5 : wS.cell? ⟨gS, 5, none⟩ = some (.int .i64 x.msg) := HRw.out.c 5 _ rfl
                      go_cut [184] from 113 to 184 (fun v wx => v = .bool (!Mx.winOk m x) ∧ wx = wS)
                      case first =>
                        cases h1 : Mx.within x.kind 1 3
                        · skip
                          as_aux_lemma =>
                            go_wp2_with (first | (go_at_call 37; refine (rwithin_any _ _ _ _).mono ?_; rintro e w' ⟨rfl, hw⟩; rw [hw]; clear hw) | (go_at_call 38; refine (rpower_any _ _ _).mono ?_; rintro e w' ⟨rfl, hw⟩; rw [hw]; clear hw))
                            all_goals
                              go_meet
                              case rel => exact ⟨by first | (simp [Mx.winOk, h1]; done) | (simp [Mx.winOk, h1]; omega) | simp_all [Mx.winOk, h1], rfl⟩
                        · skip
                          cases h2 : Mx.within x.start 0 m.length
                          · skip
                            as_aux_lemma =>
                              go_wp2_with (first | (go_at_call 37; refine (rwithin_any _ _ _ _).mono ?_; rintro e w' ⟨rfl, hw⟩; rw [hw]; clear hw) | (go_at_call 38; refine (rpower_any _ _ _).mono ?_; rintro e w' ⟨rfl, hw⟩; rw [hw]; clear hw))
                              all_goals
                                go_meet
                                case rel => exact ⟨by first | (simp [Mx.winOk, h1, h2]; done) | (simp [Mx.winOk, h1, h2]; omega) | simp_all [Mx.winOk, h1, h2], rfl⟩
                          · skip
                            cases h3 : Mx.within x.fin 0 m.length
                            · skip
                              as_aux_lemma =>
                                go_wp2_with (first | (go_at_call 37; refine (rwithin_any _ _ _ _).mono ?_; rintro e w' ⟨rfl, hw⟩; rw [hw]; clear hw) | (go_at_call 38; refine (rpower_any _ _ _).mono ?_; rintro e w' ⟨rfl, hw⟩; rw [hw]; clear hw))
                                all_goals
                                  go_meet
                                  case rel => exact ⟨by first | (simp [Mx.winOk, h1, h2, h3]; done) | (simp [Mx.winOk, h1, h2, h3]; omega) | simp_all [Mx.winOk, h1, h2, h3], rfl⟩
                            · skip
                              by_cases h4 : x.start < x.fin
                              · skip
                                have h4a : ¬ (x.fin ≤ x.start) := by omega
                                have h4c : decide (x.fin ≤ x.start) = false := decide_eq_false h4a
                                cases h5 : Mx.power x.rep m.cycles
                                · skip
                                  as_aux_lemma =>
                                    go_wp2_with (first | (go_at_call 37; refine (rwithin_any _ _ _ _).mono ?_; rintro e w' ⟨rfl, hw⟩; rw [hw]; clear hw) | (go_at_call 38; refine (rpower_any _ _ _).mono ?_; rintro e w' ⟨rfl, hw⟩; rw [hw]; clear hw))
                                    all_goals
                                      go_meet
                                      case rel => exact ⟨by first | (simp [Mx.winOk, h1, h2, h3, h4, h5]; done) | (simp [Mx.winOk, h1, h2, h3, h4, h5]; omega) | simp_all [Mx.winOk, h1, h2, h3, h4, h5], rfl⟩
                                · skip
                                  have h5a := power_in h5
                                  cases h6 : Mx.within x.cycle 0 (x.rep - 1)
                                  · skip
                                    as_aux_lemma =>
                                      go_wp2_with (first | (go_at_call 37; refine (rwithin_any _ _ _ _).mono ?_; rintro e w' ⟨rfl, hw⟩; rw [hw]; clear hw) | (go_at_call 38; refine (rpower_any _ _ _).mono ?_; rintro e w' ⟨rfl, hw⟩; rw [hw]; clear hw))
                                      all_goals
                                        go_meet
                                        case rel => exact ⟨by first | (simp [Mx.winOk, h1, h2, h3, h4, h5, h6]; done) | (simp [Mx.winOk, h1, h2, h3, h4, h5, h6]; omega) | simp_all [Mx.winOk, h1, h2, h3, h4, h5, h6], rfl⟩
                                  · skip
                                    cases h7 : Mx.within x.msg 0 99
                                    · skip
                                      as_aux_lemma =>
                                        go_wp2_with (first | (go_at_call 37; refine (rwithin_any _ _ _ _).mono ?_; rintro e w' ⟨rfl, hw⟩; rw [hw]; clear hw) | (go_at_call 38; refine (rpower_any _ _ _).mono ?_; rintro e w' ⟨rfl, hw⟩; rw [hw]; clear hw))
                                        all_goals
                                          go_meet
                                          case rel => exact ⟨by first | (simp [Mx.winOk, h1, h2, h3, h4, h5, h6, h7]; done) | (simp [Mx.winOk, h1, h2, h3, h4, h5, h6, h7]; omega) | simp_all [Mx.winOk, h1, h2, h3, h4, h5, h6, h7], rfl⟩
                                    · skip
                                      as_aux_lemma =>
                                        go_wp2_with (first | (go_at_call 37; refine (rwithin_any _ _ _ _).mono ?_; rintro e w' ⟨rfl, hw⟩; rw [hw]; clear hw) | (go_at_call 38; refine (rpower_any _ _ _).mono ?_; rintro e w' ⟨rfl, hw⟩; rw [hw]; clear hw))
                                        all_goals
                                          go_meet
                                          case rel => exact ⟨by first | (simp [Mx.winOk, h1, h2, h3, h5, h6, h7, h4, bne]; done) | (simp [Mx.winOk, h1, h2, h3, h5, h6, h7, h4]; omega) | simp_all [Mx.winOk, h1, h2, h3, h5, h6, h7, h4, bne], rfl⟩
                              · skip
                                have h4a : x.fin ≤ x.start := by omega
                                as_aux_lemma =>
                                  go_wp2_with (first | (go_at_call 37; refine (rwithin_any _ _ _ _).mono ?_; rintro e w' ⟨rfl, hw⟩; rw [hw]; clear hw) | (go_at_call 38; refine (rpower_any _ _ _).mono ?_; rintro e w' ⟨rfl, hw⟩; rw [hw]; clear hw))
                                  all_goals
                                    go_meet
                                    case rel => exact ⟨by first | (simp [Mx.winOk, h1, h2, h3, h4]; done) | (simp [Mx.winOk, h1, h2, h3, h4]; omega) | simp_all [Mx.winOk, h1, h2, h3, h4], rfl⟩
                      case rest =>
                        obtain ⟨rfl, rfl⟩ := hcut
                        clear y2 y3 z0 z1 z2 z3 z4 z5 HRw
                        cases hwo : Mx.winOk m x
                        · have hR := HI.out.2.2.2.2.1 (all_not HX3.out hwo)
                          subst hR
                          go_wp2
                          go_ret
                          exact ⟨rfl, HXw.out.below⟩
                        · have HF2 : Hid (∀ (j : Nat) y, j < k3 + 1 → m.windows[j]? = some y → Mx.winOk m y = true) := true_succ HX3.out HF.out hwo
                          clear HX3 hwo
                          go_wp2
                          go_roundw
                          case rel => exact ⟨k3 + 1, by omega, rfl, HXw, HF2⟩
                          case measure => simp only [intOf]; omega
                    · have hkl3 : k3 = n3 := by omega
                      have hR := HI.out.2.2.2.2.2 hsc hle HA1.out HA2.out (HE3.out (fun j y hj hy => HF.out j y (by omega) hy))
                      subst hR
                      clear HF HE3 HL3
                      go_wp2
                      go_ret
                      exact ⟨rfl, HX.out.below⟩
end Go.Proofs.YtnbfnipdiffphaaDoor
