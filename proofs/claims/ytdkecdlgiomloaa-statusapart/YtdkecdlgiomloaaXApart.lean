/- StatusApart: for every slice of at most eighty bytes (more are let by): counters grow each by itself; what there is none of changes nothing; a copy goes its own way; no condition. -/
import Derived.Test.YtdkecdlgiomloaaD19
import Derived.ProofKit
import Derived.OpenShut
import Derived.Deep.CutBlock
import Derived.Test.YtdkecdlgiomloaaHl
namespace Go.Proofs.Ytdkecdlgiomloaa.statusApart
open Go.ChangeShapes Go.WideShapes Go.ChangeAt Go.RowKit
set_option linter.unusedVariables false
variable {At : Ob.A (List Nat)}
set_option maxRecDepth 100000 in
set_option maxHeartbeats 8000000 in
theorem walkA (S : StatusSpec At) (s1 : Option Addr) (len1 cap1 : Nat) (B : Nat → Nat) (W : World) (hin : IsU19 W s1 len1 B) : Calls Try.prog 5 #[.slice s1 len1 cap1] W fun e w' => e = .returned (.bool true) ∧ Below W.heap.size W w' := by
  go_enter Try.func5, Try.ntmps5
  go_wp2_with fail
  refine (known19_any S _).mono ?_
  rintro e w1 ⟨rfl, hb⟩
  have HB : Hid (Below W.heap.size W w1) := hb
  clear hb
  by_cases h80 : 80 < len1
  · have h80i : (80 : Int) < (len1 : Int) := by omega
    clear hin
    go_wp2
    go_ret
    exact ⟨rfl, HB.out⟩
  have h80i : ¬ ((80 : Int) < (len1 : Int)) := by omega
  have HBl : Hid (len1 ≤ 80) := (by omega : len1 ≤ 80)
  have HEl : Hid (∀ i, i < len1 → ∃ b off, s1 = some ⟨b, off, none⟩ ∧ (∀ w', Below W.heap.size W w' → w'.cell? ⟨b, off + i, none⟩ = some (.int .u8 (B i : Int))) ∧ B i < 256) := fun i hi => by
    obtain ⟨b, off, hs, hc, hB⟩ := hin i hi
    exact ⟨b, off, hs, fun w' hbl => (hbl.cell (p := ⟨b, off + i, none⟩) (block_lt_of_cell hc)).trans hc, hB⟩
  clear hin
  go_wp2_with fail
  refine (Oq.O1.make (S.new w1 5 (by decide)) HB.out).mono ?_
  rintro e w2 ⟨p, rfl, hq⟩
  have HG : Hid (W.heap.size ≤ w2.heap.size) := hq.bel.size
  have HO : Hid (Oq.O1 At W (w2.alloc (.cells (sA (Q19.mk 5)) 42)) p (Q19.mk 5) [(w2.heap.size, .cells (sA (Q19.mk 5)) 42)]) := hq.al S.is _
  have e5 : sA (Q19.mk 5) = #[.int .i64 0, .int .i64 0, .int .i64 0, .int .i64 0, .int .i64 0] := rfl
  rw [e5] at HO
  clear hq HB h80i h80 e5
  go_upto_region 7 with fail
  generalize w2.alloc (.cells #[.int .i64 0, .int .i64 0, .int .i64 0, .int .i64 0, .int .i64 0] 42) = v2 at HO ⊢
  generalize w2.heap.size = gn at HO HG ⊢
  have HOs : Hid (∃ s, s.length = 5 ∧ Q19.Ok s ∧ Oq.O1 At W v2 p s [(gn, .cells (sA s) 42)]) := ⟨Q19.mk 5, by decide, Q19.ok_mk 5, HO.out⟩
  clear HO
  go_wp2_with fail
  go_loopw [5] (fun vi wr => ∃ i : Nat, i ≤ len1 ∧ vi = .int .i64 (i : Int) ∧ Hid (∃ s, s.length = 5 ∧ Q19.Ok s ∧ Oq.O1 At W wr p s [(gn, .cells (sA s) 42)])) (fun vi _ => len1 - (intOf vi).toNat)
  case atStart => exact ⟨0, Nat.zero_le _, rfl, HOs⟩
  case round =>
    clear HOs
    obtain ⟨i, hi, rfl, HOs⟩ := hrel
    by_cases hil : i < len1
    · obtain ⟨b, off, rfl, hc, hB⟩ := HEl.out i hil
      have ii : (i : Int) < (len1 : Int) := by omega
      have ib : (i : Int) < 1000 := by have := HBl.out; omega
      obtain ⟨s, hs5, hok, ho⟩ := HOs.out
      have HO : Hid (Oq.O1 At W wr p s [(gn, .cells (sA s) 42)]) := ho
      have HS : Hid (s.length = 5 ∧ Q19.Ok s) := ⟨hs5, hok⟩
      have HCe : Hid (∀ w', Below W.heap.size W w' → w'.cell? ⟨b, off + i, none⟩ = some (.int .u8 (B i : Int))) := hc
      have c0 := hc wr ho.bel
      clear hc ho HOs hs5 hok
      generalize B i = x at HCe c0 hB
      obtain ⟨k, hk⟩ : ∃ k : Int, (x : Int) % 8 - 1 = k := ⟨_, rfl⟩
      have hk1 : -1 ≤ k := by omega
      have hk2 : k ≤ 6 := by omega
      have ek : (x : Int).tmod 8 - 1 = k := by rw [Int.tmod_eq_emod_of_nonneg (by omega)]; exact hk
      have HKw : Hid ((Lit.int .i64 k).wf = true) := wf19 (by omega)
      have xb : (x : Int) ≤ 255 := by omega
      go_wp2_with fail
      refine (HO.out.make2 S.is (fun F hF => S.copy wr p F s hF)).mono ?_
      rintro e w3 ⟨q, rfl, hq⟩
      have HT : Hid (Oq.O2 At At W w3 p s q s [(gn, .cells (sA s) 42)]) := hq
      clear hq HO c0
      have c0 := HCe.out w3 HT.out.bel
      go_upto_if 36 with fail
      go_cut [] from 21 to 68 (fun wy => ∃ s' : List Nat, s'.length = 5 ∧ Q19.Ok s' ∧ Oq.O2 At At W wy p s' q s [(gn, .cells (sA s') 42)])
      case first =>
        by_cases hx3 : x / 8 % 3 = 0
        · have hx3i : (x : Int) / 8 % 3 = 0 := by omega
          clear hk ek
          go_wp2_with fail
          refine (HT.out.turn S.is (fun F hF => S.good w3 p F s k HKw.out hF)).mono ?_
          rintro e w4 ⟨rfl, hq⟩
          have HU : Hid (Oq.O2 At At W w4 p (Q19.down s k) q s [(gn, .cells (sA s) 42)]) := hq
          clear hq HT c0 HCe
          by_cases kin : 0 ≤ k ∧ k < 5
          · obtain ⟨k3, k4⟩ := kin
            obtain ⟨m, rfl⟩ := Int.eq_ofNat_of_zero_le k3
            have hm5 : m < 5 := by omega
            have mi : (m : Int) < 5 := k4
            obtain ⟨y, hy⟩ : ∃ y, s[m]? = some y := ⟨_, List.getElem?_eq_getElem (by rw [HS.out.1]; exact hm5)⟩
            have hy7 : y ≤ 7 := HS.out.2.le y (List.mem_of_getElem? hy)
            have hr := HU.out.rows _ (List.mem_singleton.2 rfl)
            dsimp only at hr
            have n0 := Oq.row_cell (k := m) hr (sL_at hy)
            have f0 := RowT.f (T := 42) hr m
            have HD : Hid (Q19.down s (m : Int) = s.set m (y - 1)) := Q19.down_nat hy
            clear hr
            by_cases hc0 : y = 0
            · subst hc0
              have HF : Hid (∀ v : Int, v = ((0 : Nat) : Int) → Oq.O2 At At W (w4.setCell ⟨gn, m, none⟩ (.int .i64 v)) p (Q19.down s (m : Int)) q s [(gn, .cells (sA (Q19.down s (m : Int))) 42)]) := fun v hv => by
                subst hv
                have h := HU.out.store (k := m) (v := .int .i64 ((0 : Nat) : Int)) S.is S.is HG.out
                rw [sA_set] at h
                have e := HD.out
                skip
                rw [show s.set m (0) = Q19.down s (m : Int) from e.symm] at h
                exact h
              go_wp2_with fail
              all_goals
                go_meet
                case rel => exact ⟨_, by rw [Q19.len_down]; exact HS.out.1, Q19.ok_down HS.out.2 _, HF.out _ (by omega)⟩
            · have y1 : ¬ ((y : Int) - 1 < 0) := by omega
              have y2 : 0 ≤ (y : Int) - 1 := by omega
              have ye : (y : Int) - 1 = ((y - 1 : Nat) : Int) := by omega
              have HF : Hid (∀ v : Int, v = ((y - 1 : Nat) : Int) → Oq.O2 At At W (w4.setCell ⟨gn, m, none⟩ (.int .i64 v)) p (Q19.down s (m : Int)) q s [(gn, .cells (sA (Q19.down s (m : Int))) 42)]) := fun v hv => by
                subst hv
                have h := HU.out.store (k := m) (v := .int .i64 ((y - 1 : Nat) : Int)) S.is S.is HG.out
                rw [sA_set] at h
                have e := HD.out
                skip
                rw [show s.set m (y - 1) = Q19.down s (m : Int) from e.symm] at h
                exact h
              go_wp2_with fail
              all_goals
                go_meet
                case rel => exact ⟨_, by rw [Q19.len_down]; exact HS.out.1, Q19.ok_down HS.out.2 _, HF.out _ (by omega)⟩
          · have hno : Q19.inn s k = false := Q19.inn_no (by rw [HS.out.1]; omega)
            rw [Q19.down_no hno] at HU
            by_cases k0 : 0 ≤ k
            · have k5 : ¬ (k < 5) := by omega
              clear kin hno
              go_wp2_with fail
              all_goals
                go_meet
                case rel => exact ⟨s, HS.out.1, HS.out.2, HU.out⟩
            · clear kin hno
              go_wp2_with fail
              all_goals
                go_meet
                case rel => exact ⟨s, HS.out.1, HS.out.2, HU.out⟩
        · have hx3i : ¬ ((x : Int) / 8 % 3 = 0) := by omega
          have hx3b : ((x : Int) / 8 % 3 == 0) = false := beq_eq_false_iff_ne.2 hx3i
          clear hk ek
          go_wp2_with fail
          refine (HT.out.turn S.is (fun F hF => S.bad w3 p F s k HKw.out hF)).mono ?_
          rintro e w4 ⟨rfl, hq⟩
          have HU : Hid (Oq.O2 At At W w4 p (Q19.up s k) q s [(gn, .cells (sA s) 42)]) := hq
          clear hq HT c0 HCe
          by_cases kin : 0 ≤ k ∧ k < 5
          · obtain ⟨k3, k4⟩ := kin
            obtain ⟨m, rfl⟩ := Int.eq_ofNat_of_zero_le k3
            have hm5 : m < 5 := by omega
            have mi : (m : Int) < 5 := k4
            obtain ⟨y, hy⟩ : ∃ y, s[m]? = some y := ⟨_, List.getElem?_eq_getElem (by rw [HS.out.1]; exact hm5)⟩
            have hy7 : y ≤ 7 := HS.out.2.le y (List.mem_of_getElem? hy)
            have hr := HU.out.rows _ (List.mem_singleton.2 rfl)
            dsimp only at hr
            have n0 := Oq.row_cell (k := m) hr (sL_at hy)
            have f0 := RowT.f (T := 42) hr m
            have HD : Hid (Q19.up s (m : Int) = s.set m (min 7 (y + 1))) := Q19.up_nat hy
            clear hr
            by_cases hc0 : y = 7
            · subst hc0
              have HF : Hid (∀ v : Int, v = ((7 : Nat) : Int) → Oq.O2 At At W (w4.setCell ⟨gn, m, none⟩ (.int .i64 v)) p (Q19.up s (m : Int)) q s [(gn, .cells (sA (Q19.up s (m : Int))) 42)]) := fun v hv => by
                subst hv
                have h := HU.out.store (k := m) (v := .int .i64 ((7 : Nat) : Int)) S.is S.is HG.out
                rw [sA_set] at h
                have e := HD.out
                rw [show min 7 (7 + 1) = 7 by rfl] at e
                rw [show s.set m (7) = Q19.up s (m : Int) from e.symm] at h
                exact h
              go_wp2_with fail
              all_goals
                go_meet
                case rel => exact ⟨_, by rw [Q19.len_up]; exact HS.out.1, Q19.ok_up HS.out.2 _, HF.out _ (by omega)⟩
            · have y1 : ¬ (7 < (y : Int) + 1) := by omega
              have y2 : (y : Int) + 1 ≤ 7 := by omega
              have HF : Hid (∀ v : Int, v = ((y + 1 : Nat) : Int) → Oq.O2 At At W (w4.setCell ⟨gn, m, none⟩ (.int .i64 v)) p (Q19.up s (m : Int)) q s [(gn, .cells (sA (Q19.up s (m : Int))) 42)]) := fun v hv => by
                subst hv
                have h := HU.out.store (k := m) (v := .int .i64 ((y + 1 : Nat) : Int)) S.is S.is HG.out
                rw [sA_set] at h
                have e := HD.out
                rw [show min 7 (y + 1) = y + 1 by omega] at e
                rw [show s.set m (y + 1) = Q19.up s (m : Int) from e.symm] at h
                exact h
              go_wp2_with fail
              all_goals
                go_meet
                case rel => exact ⟨_, by rw [Q19.len_up]; exact HS.out.1, Q19.ok_up HS.out.2 _, HF.out _ (by omega)⟩
          · have hno : Q19.inn s k = false := Q19.inn_no (by rw [HS.out.1]; omega)
            rw [Q19.up_no hno] at HU
            by_cases k0 : 0 ≤ k
            · have k5 : ¬ (k < 5) := by omega
              clear kin hno
              go_wp2_with fail
              all_goals
                go_meet
                case rel => exact ⟨s, HS.out.1, HS.out.2, HU.out⟩
            · clear kin hno
              go_wp2_with fail
              all_goals
                go_meet
                case rel => exact ⟨s, HS.out.1, HS.out.2, HU.out⟩
      case rest =>
        clear HT c0 HCe
        obtain ⟨s', hs5, hok, ho⟩ := hcut
        have HS' : Hid (s'.length = 5 ∧ Q19.Ok s') := ⟨hs5, hok⟩
        have HT : Hid (Oq.O2 At At W wc p s' q s [(gn, .cells (sA s') 42)]) := ho
        clear hs5 hok ho
        go_wp2_with fail
        refine (HT.out.turn2 S.is (fun F hF => S.clear wc q F s hF)).mono ?_
        rintro e w5 ⟨rfl, hq⟩
        rw [HS.out.1] at hq
        have HT2 : Hid (Oq.O2 At At W w5 p s' q (List.replicate 5 0) [(gn, .cells (sA s') 42)]) := hq
        clear hq HT HS
        go_wp2_with fail
        go_loopw [8] (fun vj wr => ∃ j : Nat, j ≤ 5 ∧ vj = .int .i64 (j : Int) ∧ Hid (Oq.O2 At At W wr p s' q (List.replicate 5 0) [(gn, .cells (sA s') 42)])) (fun vj _ => 5 - (intOf vj).toNat)
        case atStart => exact ⟨0, Nat.zero_le _, rfl, HT2⟩
        case round =>
          clear HT2
          obtain ⟨j, hj, rfl, HT2⟩ := hrel
          by_cases hj5 : j < 5
          · have ij : (j : Int) < 5 := by omega
            obtain ⟨y, hy⟩ : ∃ y, s'[j]? = some y := ⟨_, List.getElem?_eq_getElem (by rw [HS'.out.1]; exact hj5)⟩
            have hjw : (Lit.int .i64 (j : Int)).wf = true := wf19 (by omega)
            have HG1 : Hid (∀ w', Below wr.heap.size wr w' → Calls Try.prog 17 #[Ob.ptr p, .int .i64 (j : Int)] w' fun e w'' => e = .returned (.int .i64 (y : Int)) ∧ Below w'.heap.size w' w'') := HT2.out.looks S.is (fun w F hF => by have := S.get w p F s' (j : Int) hjw hF; rwa [Q19.get_nat hy] at this)
            have HG2 : Hid (∀ w', Below wr.heap.size wr w' → Calls Try.prog 17 #[Ob.ptr q, .int .i64 (j : Int)] w' fun e w'' => e = .returned (.int .i64 0) ∧ Below w'.heap.size w' w'') := HT2.out.swap.looks S.is (fun w F hF => by have := S.get w q F _ (j : Int) hjw hF; rwa [Q19.get_zero] at this)
            have HRw : Hid (∀ w', Below wr.heap.size wr w' → w'.cell? ⟨gn, j, none⟩ = some (.int .i64 (y : Int))) := fun w' hb => Oq.row_cell (k := j) ((HT2.out.on S.is S.is hb).rows _ (List.mem_singleton.2 rfl)) (sL_at hy)
            clear hy hjw
            go_upto_region 23 with fail
            refine Lw.wp_region_quiet_below (by kernel_rfl) (by kernel_rfl) ?_
            repeat (first
              | go_big_quiet_skip
              | (go_big_quiet_want; go_big_quiet_op; go_big_quiet_on)
              | (go_big_quiet_want; go_big_quiet_op; apply Exists.intro; refine ⟨fun _ hb' => ?_, ?_⟩; (first
                | exact Lw.val_rfl _
                | (go_at_call_of 17 (Ob.ptr p); exact Lw.calls_below hb' (HG1.out _ hb'))
                | (go_at_call_of 17 (Ob.ptr q); exact Lw.calls_below hb' (HG2.out _ hb'))
                | (simp [go_sem, HRw.out _ hb']; rfl)); go_big_quiet_on))
            refine wpQuiet_nil ?_
            intro w6 hb6
            have HT3 : Hid (Oq.O2 At At W w6 p s' q (List.replicate 5 0) [(gn, .cells (sA s') 42)]) := HT2.out.on S.is S.is hb6
            clear hb6 HT2 HG1 HG2 HRw
            go_wp2_with fail
            go_roundw
            case rel => exact ⟨j + 1, by omega, rfl, HT3⟩
            case measure => simp only [intOf]; omega
          · obtain rfl : j = 5 := by omega
            have HOn : Hid (∃ s, s.length = 5 ∧ Q19.Ok s ∧ Oq.O1 At W wr p s [(gn, .cells (sA s) 42)]) := ⟨s', HS'.out.1, HS'.out.2, HT2.out.fst⟩
            clear HT2 HS'
            go_wp2_with fail
            go_roundw
            case rel => exact ⟨i + 1, by omega, rfl, HOn⟩
            case measure => simp only [intOf]; omega
    · obtain rfl : i = len1 := by omega
      have ii : ¬ ((i : Int) < (i : Int)) := by omega
      clear HEl
      obtain ⟨s, hs5, hok, ho⟩ := HOs.out
      have HO : Hid (Oq.O1 At W wr p s [(gn, .cells (sA s) 42)]) := ho
      have HG1 : Hid (Q19.get s (-1) = 0 ∧ Q19.get s 5 = 0 ∧ s.length = 5) := ⟨Q19.get_no (Q19.inn_no (by omega)), Q19.get_no (Q19.inn_no (by rw [hs5]; omega)), hs5⟩
      clear ho hs5 hok HOs
      go_wp2_with fail
      refine (HO.out.look S.is (fun F hF => S.get _ p F s (-1) (by decide) hF)).mono ?_
      rintro e w7 ⟨rfl, hq⟩
      rw [HG1.out.1]
      replace HO : Hid (Oq.O1 At W w7 p s [(gn, .cells (sA s) 42)]) := hq
      clear hq
      go_wp2_with fail
      refine (HO.out.look S.is (fun F hF => S.get _ p F s 5 (by decide) hF)).mono ?_
      rintro e w8 ⟨rfl, hq⟩
      rw [HG1.out.2.1]
      replace HO : Hid (Oq.O1 At W w8 p s [(gn, .cells (sA s) 42)]) := hq
      clear hq
      go_wp2_with fail
      refine (HO.out.list S.is (fun F hF => S.all _ p F s hF)).mono ?_
      rintro e w9 ⟨a, c, R', rfl, hL, hq⟩
      have HBz : Hid (Below W.heap.size W w9) := hq.bel
      rw [HG1.out.2.2]
      clear hq hL HO HG1
      go_wp2
      go_ret
      exact ⟨rfl, HBz.out⟩
end Go.Proofs.Ytdkecdlgiomloaa.statusApart
