/- StatusSizes: for every number: as many counters as there may be; no condition. -/
import Derived.Test.YtdkecdlgiomloaaC19
import Derived.ProofKit
import Derived.OpenShut
import Derived.Deep.CutBlock
namespace Go.Proofs.Ytdkecdlgiomloaa.statusSizes
open Go.ChangeShapes Go.WideShapes Go.ChangeAt Go.RowKit
set_option linter.unusedVariables false
variable {At : Ob.A (List Nat)}
set_option maxRecDepth 100000 in
set_option maxHeartbeats 8000000 in
theorem walkA (S : StatusSpec At) (a0 : Int) (w0 : (Lit.int .i64 a0).wf = true) (W : World) : Calls Try.prog 6 #[.int .i64 a0] W fun e w' => e = .returned (.bool true) ∧ Below W.heap.size W w' := by
  obtain ⟨k, hk⟩ : ∃ k, Q19.held a0 = k := ⟨_, rfl⟩
  have hk12 := Q19.held_le a0
  rw [hk] at hk12
  have HE : Hid (max 0 (min a0 12) = (k : Int)) := by show _ = _; rw [← hk]; unfold Q19.held; omega
  have HM : Hid (Q19.One (Q19.mk a0) k ((k : Int) - 1) 0) := by show Q19.One _ _ _ _; have := Q19.one_mk a0 ((k : Int) - 1); rwa [hk] at this
  have HN : Hid ((Lit.int .i64 a0).wf = true) := w0
  have HKw : Hid ((Lit.int .i64 ((k : Int) - 1)).wf = true) := wf19 (by omega)
  clear hk w0
  go_enter Try.func6, Try.ntmps6
  go_wp2_with fail
  refine (known19_any S _).mono ?_
  rintro e w1 ⟨rfl, hb⟩
  have HB : Hid (Below W.heap.size W w1) := hb
  clear hb
  go_wp2_with fail
  refine (Oq.O1.make (S.new w1 a0 HN.out) HB.out).mono ?_
  rintro e w2 ⟨p, rfl, hq⟩
  have HO : Hid (Oq.O1 At W w2 p (Q19.mk a0) []) := hq
  clear hq HB HN
  go_upto_region 4 with fail
  go_cut [4] from 10 to 12 (fun v wx => v = .int .i64 (k : Int) ∧ wx = w2)
  case first =>
    have HE2 := HE.out
    clear HO HM HKw HE
    by_cases h12 : a0 ≤ 12
    · have h12' : ¬ (12 < a0) := by omega
      by_cases h0 : 0 ≤ a0
      · have h0' : ¬ (a0 < 0) := by omega
        have hkk : (k : Int) = a0 := by omega
        clear HE2
        go_wp2_with fail
        all_goals
          go_meet
          case rel => exact ⟨by first | rfl | (congr 1; omega), rfl⟩
      · have h0' : a0 < 0 := by omega
        have hkk : (k : Int) = 0 := by omega
        clear HE2
        go_wp2_with fail
        all_goals
          go_meet
          case rel => exact ⟨by first | rfl | (congr 1; omega), rfl⟩
    · have h12' : 12 < a0 := by omega
      have hkk : (k : Int) = 12 := by omega
      clear HE2
      go_wp2_with fail
      all_goals
        go_meet
        case rel => exact ⟨by first | rfl | (congr 1; omega), rfl⟩
  obtain ⟨rfl, hwc⟩ := hcut
  rw [hwc]
  clear hwc
  clear HE
  have HBad : Hid (∀ (w : World) (s s' : List Nat) (R : Oq.Rs) (k : Int), Oq.O1 At W w p s R → (Lit.int .i64 k).wf = true → Q19.up s k = s' → Calls Try.prog 13 #[Ob.ptr p, .int .i64 k] w fun e w' => e = .returned (.tuple #[]) ∧ Oq.O1 At W w' p s' R) := fun w s s' R k h hk h1 => by subst h1; exact h.turn (fun F hF => S.bad w p F s k hk hF)
  have HGet : Hid (∀ (w : World) (s : List Nat) (R : Oq.Rs) (k : Int) (x : Nat), Oq.O1 At W w p s R → (Lit.int .i64 k).wf = true → Q19.get s k = x → Calls Try.prog 17 #[Ob.ptr p, .int .i64 k] w fun e w' => e = .returned (.int .i64 (x : Int)) ∧ Oq.O1 At W w' p s R) := fun w s R k x h hk h1 => by subst h1; exact h.look S.is (fun F hF => S.get w p F s k hk hF)
  have HSpr : Hid (∀ (w : World) (s : List Nat) (R : Oq.Rs) (x : Nat), Oq.O1 At W w p s R → Q19.spread s = x → Calls Try.prog 16 #[Ob.ptr p] w fun e w' => e = .returned (.int .i64 (x : Int)) ∧ Oq.O1 At W w' p s R) := fun w s R x h h1 => by subst h1; exact h.look S.is (fun F hF => S.spread w p F s hF)
  have HAll : Hid (∀ (w : World) (s : List Nat) (R : Oq.Rs) (n : Nat), Oq.O1 At W w p s R → s.length = n → Calls Try.prog 14 #[Ob.ptr p] w fun e w' => ∃ a c R', e = .returned (.slice a n c) ∧ Oq.Lst R' a c n (sL s) ∧ Oq.O1 At W w' p s (R' ++ R)) := fun w s R n h h1 => by subst h1; exact h.list S.is (fun F hF => S.all w p F s hF)
  go_wp2_with fail
  refine (HBad.out _ _ _ _ _ HO.out HKw.out rfl).mono ?_
  rintro e w3 ⟨rfl, hq⟩
  replace HO : Hid (Oq.O1 At W w3 p (Q19.up (Q19.mk a0) ((k : Int) - 1)) []) := hq
  clear hq HBad
  generalize Q19.mk a0 = s0 at HO HM
  by_cases h0 : k = 0
  · subst h0
    have HL : Hid ((Q19.up s0 (((0 : Nat) : Int) - 1)).length = 0 ∧ Q19.spread (Q19.up s0 (((0 : Nat) : Int) - 1)) = 0) := by
      have hno : Q19.inn s0 (((0 : Nat) : Int) - 1) = false := Q19.inn_no (by omega)
      show _ ∧ _
      rw [Q19.up_no hno]
      exact ⟨HM.out.len, HM.out.spread1 (by omega)⟩
    clear HM
    generalize Q19.up s0 (((0 : Nat) : Int) - 1) = s at HO HL
    go_wp2_with fail
    refine (HAll.out _ _ _ 0 HO.out HL.out.1).mono ?_
    rintro e w4 ⟨a, c, R', rfl, hL, hq⟩
    have HO4 : Hid (Oq.O1 At W w4 p s []) := hq.less (fun x hx => by cases hx)
    clear hq hL HO
    go_wp2_with fail
    refine (HSpr.out _ _ _ 0 HO4.out HL.out.2).mono ?_
    rintro e w5 ⟨rfl, hq⟩
    have HB : Hid (Below W.heap.size W w5) := hq.bel
    clear hq HO4 HL HSpr HAll HGet HKw
    go_wp2
    go_ret
    exact ⟨rfl, HB.out⟩
  · have HKi : Hid (0 ≤ (k : Int) - 1 ∧ (k : Int) - 1 < (k : Int)) := (by omega : 0 ≤ (k : Int) - 1 ∧ (k : Int) - 1 < (k : Int))
    have H1 : Hid (Q19.One (Q19.up s0 ((k : Int) - 1)) k ((k : Int) - 1) 1) := HM.out.up HKi.out
    have h0i : ¬ ((k : Int) = 0) := by omega
    have h0b : ((k : Int) == 0) = false := beq_eq_false_iff_ne.2 h0i
    clear HM
    generalize Q19.up s0 ((k : Int) - 1) = s at HO H1
    by_cases h1 : 1 < k
    · have h1i : (1 : Int) < (k : Int) := by omega
      have HSp : Hid (Q19.spread s = 1) := H1.out.spread HKi.out h1
      go_wp2_with fail
      refine (HAll.out _ _ _ k HO.out H1.out.len).mono ?_
      rintro e w4 ⟨a, c, R', rfl, hL, hq⟩
      have HO4 : Hid (Oq.O1 At W w4 p s []) := hq.less (fun x hx => by cases hx)
      clear hq hL HO
      go_wp2_with fail
      refine (HGet.out _ _ _ _ 1 HO4.out HKw.out H1.out.got).mono ?_
      rintro e w5 ⟨rfl, hq⟩
      replace HO4 : Hid (Oq.O1 At W w5 p s []) := hq
      clear hq
      go_wp2_with fail
      refine (HSpr.out _ _ _ 1 HO4.out HSp.out).mono ?_
      rintro e w6 ⟨rfl, hq⟩
      have HB : Hid (Below W.heap.size W w6) := hq.bel
      clear hq HO4 H1 HSp HSpr HAll HGet HKw HKi
      go_wp2
      go_ret
      exact ⟨rfl, HB.out⟩
    · have h1i : ¬ ((1 : Int) < (k : Int)) := by omega
      have HSp : Hid (Q19.spread s = 0) := H1.out.spread1 (by omega)
      go_wp2_with fail
      refine (HAll.out _ _ _ k HO.out H1.out.len).mono ?_
      rintro e w4 ⟨a, c, R', rfl, hL, hq⟩
      have HO4 : Hid (Oq.O1 At W w4 p s []) := hq.less (fun x hx => by cases hx)
      clear hq hL HO
      go_wp2_with fail
      refine (HGet.out _ _ _ _ 1 HO4.out HKw.out H1.out.got).mono ?_
      rintro e w5 ⟨rfl, hq⟩
      replace HO4 : Hid (Oq.O1 At W w5 p s []) := hq
      clear hq
      go_wp2_with fail
      refine (HSpr.out _ _ _ 0 HO4.out HSp.out).mono ?_
      rintro e w6 ⟨rfl, hq⟩
      have HB : Hid (Below W.heap.size W w6) := hq.bel
      clear hq HO4 H1 HSp HSpr HAll HGet HKw HKi
      go_wp2
      go_ret
      exact ⟨rfl, HB.out⟩
end Go.Proofs.Ytdkecdlgiomloaa.statusSizes
