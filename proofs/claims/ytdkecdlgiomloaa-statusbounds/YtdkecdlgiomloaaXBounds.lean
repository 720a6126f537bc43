/- StatusBounds: for every three bytes: a counter stays within its bounds, and comes down as it went up; no condition. -/
import Derived.Test.YtdkecdlgiomloaaC19
import Derived.ProofKit
import Derived.OpenShut
import Derived.Deep.CutBlock
namespace Go.Proofs.Ytdkecdlgiomloaa.statusBounds
open Go.ChangeShapes Go.WideShapes Go.ChangeAt Go.RowKit
set_option linter.unusedVariables false
variable {At : Ob.A (List Nat)}
set_option maxRecDepth 100000 in
set_option maxHeartbeats 8000000 in
theorem walkA (S : StatusSpec At) (a0 : Int) (w0 : (Lit.int .u8 a0).wf = true) (a1 : Int) (w1 : (Lit.int .u8 a1).wf = true) (a2 : Int) (w2 : (Lit.int .u8 a2).wf = true) (W : World) : Calls Try.prog 4 #[.int .u8 a0, .int .u8 a1, .int .u8 a2] W fun e w' => e = .returned (.bool true) ∧ Below W.heap.size W w' := by
  obtain ⟨U, rfl, hU⟩ := natU8w w0
  obtain ⟨N, rfl, hN⟩ := natU8w w1
  obtain ⟨A, rfl, hA⟩ := natU8w w2
  obtain ⟨u, hu⟩ : ∃ u, U % 20 = u := ⟨_, rfl⟩
  obtain ⟨n, hn⟩ : ∃ n, N % 20 = n := ⟨_, rfl⟩
  obtain ⟨k, hk⟩ : ∃ k, A % 12 = k := ⟨_, rfl⟩
  have hu20 : u < 20 := by omega
  have hn20 : n < 20 := by omega
  have hk12 : k < 12 := by omega
  have eu : ((U : Int).tmod 20) = (u : Int) := by rw [Int.tmod_eq_emod_of_nonneg (by omega)]; omega
  have en : ((N : Int).tmod 20) = (n : Int) := by rw [Int.tmod_eq_emod_of_nonneg (by omega)]; omega
  have ek : ((A : Int).tmod 12) = (k : Int) := by rw [Int.tmod_eq_emod_of_nonneg (by omega)]; omega
  have eu2 : (U : Int) % 20 = (u : Int) := by omega
  have en2 : (N : Int) % 20 = (n : Int) := by omega
  have ek2 : (A : Int) % 12 = (k : Int) := by omega
  have HKi : Hid (0 ≤ (k : Int) ∧ (k : Int) < ((12 : Nat) : Int)) := (by omega : 0 ≤ (k : Int) ∧ (k : Int) < ((12 : Nat) : Int))
  have HKw : Hid ((Lit.int .i64 (k : Int)).wf = true) := wf19 (by omega)
  clear hu hn hk w0 w1 w2
  go_enter Try.func4, Try.ntmps4
  go_wp2_with fail
  refine (known19_any S _).mono ?_
  rintro e w1 ⟨rfl, hb⟩
  have HB : Hid (Below W.heap.size W w1) := hb
  clear hb
  go_wp2_with fail
  refine (Oq.O1.make (S.new w1 12 (by decide)) HB.out).mono ?_
  rintro e w2 ⟨p, rfl, hq⟩
  have HO : Hid (∃ s, Oq.O1 At W w2 p s [] ∧ Q19.One s 12 (k : Int) 0) := ⟨_, hq, Q19.one_mk 12 k⟩
  clear hq HB
  have HBad : Hid (∀ (w : World) (s s' : List Nat) (R : Oq.Rs) (k : Int), Oq.O1 At W w p s R → (Lit.int .i64 k).wf = true → Q19.up s k = s' → Calls Try.prog 13 #[Ob.ptr p, .int .i64 k] w fun e w' => e = .returned (.tuple #[]) ∧ Oq.O1 At W w' p s' R) := fun w s s' R k h hk h1 => by subst h1; exact h.turn (fun F hF => S.bad w p F s k hk hF)
  have HGood : Hid (∀ (w : World) (s s' : List Nat) (R : Oq.Rs) (k : Int), Oq.O1 At W w p s R → (Lit.int .i64 k).wf = true → Q19.down s k = s' → Calls Try.prog 11 #[Ob.ptr p, .int .i64 k] w fun e w' => e = .returned (.tuple #[]) ∧ Oq.O1 At W w' p s' R) := fun w s s' R k h hk h1 => by subst h1; exact h.turn (fun F hF => S.good w p F s k hk hF)
  have HGet : Hid (∀ (w : World) (s : List Nat) (R : Oq.Rs) (k : Int) (x : Nat), Oq.O1 At W w p s R → (Lit.int .i64 k).wf = true → Q19.get s k = x → Calls Try.prog 17 #[Ob.ptr p, .int .i64 k] w fun e w' => e = .returned (.int .i64 (x : Int)) ∧ Oq.O1 At W w' p s R) := fun w s R k x h hk h1 => by subst h1; exact h.look S.is (fun F hF => S.get w p F s k hk hF)
  have HSpr : Hid (∀ (w : World) (s : List Nat) (R : Oq.Rs) (x : Nat), Oq.O1 At W w p s R → Q19.spread s = x → Calls Try.prog 16 #[Ob.ptr p] w fun e w' => e = .returned (.int .i64 (x : Int)) ∧ Oq.O1 At W w' p s R) := fun w s R x h h1 => by subst h1; exact h.look S.is (fun F hF => S.spread w p F s hF)
  go_wp2_with fail
  go_loopw [9] (fun vi wr => ∃ i : Nat, i ≤ u ∧ vi = .int .i64 (i : Int) ∧ Hid (∃ s, Oq.O1 At W wr p s [] ∧ Q19.One s 12 (k : Int) (min i 7))) (fun vi _ => u - (intOf vi).toNat)
  case atStart => exact ⟨0, Nat.zero_le _, rfl, HO⟩
  case round =>
    clear HO
    obtain ⟨i, hi, rfl, HO⟩ := hrel
    by_cases hiu : i < u
    · have ii : (i : Int) < (u : Int) := by omega
      obtain ⟨s, ho, h1⟩ := HO.out
      have HO1 : Hid (Oq.O1 At W wr p s []) := ho
      have H1 : Hid (Q19.One (Q19.up s (k : Int)) 12 (k : Int) (min (i + 1) 7)) := by show Q19.One _ _ _ _; have := h1.up HKi.out; rwa [show min 7 (min i 7 + 1) = min (i + 1) 7 by omega] at this
      clear ho h1 HO
      go_wp2_with fail
      refine (HBad.out _ s _ _ _ HO1.out HKw.out rfl).mono ?_
      rintro e w3 ⟨rfl, hq⟩
      have HO : Hid (∃ s, Oq.O1 At W w3 p s [] ∧ Q19.One s 12 (k : Int) (min (i + 1) 7)) := ⟨_, hq, H1.out⟩
      clear hq H1 HO1
      go_wp2_with fail
      go_roundw
      case rel => exact ⟨i + 1, by omega, rfl, HO⟩
      case measure => simp only [intOf]; omega
    · obtain rfl : i = u := by omega
      have ii : ¬ ((i : Int) < (i : Int)) := by omega
      obtain ⟨x, hx⟩ : ∃ x : Nat, min i 7 = x := ⟨_, rfl⟩
      have hx7 : (x : Int) ≤ 7 := by omega
      have HX : Hid (min i 7 = x) := hx
      rw [hx] at HO
      clear hx
      go_upto_region 9 with fail
      go_cut [10] from 28 to 31 (fun v wx => v = .int .i64 (x : Int) ∧ wx = wr)
      case first =>
        by_cases h7 : (i : Int) ≤ 7
        · have h7' : ¬ ((7 : Int) < (i : Int)) := by omega
          have hxx : x = i := by have := HX.out; omega
          clear hx7
          go_wp2_with fail
          all_goals
            go_meet
            case rel => exact ⟨by rw [hxx] <;> rfl, rfl⟩
        · have h7' : (7 : Int) < (i : Int) := by omega
          have hxx : x = 7 := by have := HX.out; omega
          clear hx7
          go_wp2_with fail
          all_goals
            go_meet
            case rel => exact ⟨by rw [hxx] <;> rfl, rfl⟩
      obtain ⟨rfl, hwc⟩ := hcut
      rw [hwc]
      clear HX hwc
      obtain ⟨s, ho, h1⟩ := HO.out
      have HO1 : Hid (Oq.O1 At W wr p s []) := ho
      have H1 : Hid (Q19.One s 12 (k : Int) x) := h1
      clear ho h1 HO HBad
      go_wp2_with fail
      refine (HGet.out _ s _ _ x HO1.out HKw.out H1.out.got).mono ?_
      rintro e w3 ⟨rfl, hq⟩
      replace HO1 : Hid (Oq.O1 At W w3 p s []) := hq
      clear hq
      go_wp2_with fail
      refine (HSpr.out _ s _ x HO1.out (H1.out.spread HKi.out (by decide))).mono ?_
      rintro e w4 ⟨rfl, hq⟩
      have HO : Hid (∃ s, Oq.O1 At W w4 p s [] ∧ Q19.One s 12 (k : Int) (x - 0)) := ⟨s, hq, H1.out⟩
      clear hq HO1 H1 HSpr
      go_wp2_with fail
      go_loopw [11] (fun vi wr => ∃ j : Nat, j ≤ n ∧ vi = .int .i64 (j : Int) ∧ Hid (∃ s, Oq.O1 At W wr p s [] ∧ Q19.One s 12 (k : Int) (x - j))) (fun vi _ => n - (intOf vi).toNat)
      case atStart => exact ⟨0, Nat.zero_le _, rfl, HO⟩
      case round =>
        clear HO
        obtain ⟨j, hj, rfl, HO⟩ := hrel
        by_cases hjn : j < n
        · have ij : (j : Int) < (n : Int) := by omega
          obtain ⟨s, ho, h1⟩ := HO.out
          have HO1 : Hid (Oq.O1 At W wr p s []) := ho
          have H1 : Hid (Q19.One (Q19.down s (k : Int)) 12 (k : Int) (x - (j + 1))) := by show Q19.One _ _ _ _; have := h1.down HKi.out; rwa [show x - j - 1 = x - (j + 1) by omega] at this
          clear ho h1 HO
          go_wp2_with fail
          refine (HGood.out _ s _ _ _ HO1.out HKw.out rfl).mono ?_
          rintro e w5 ⟨rfl, hq⟩
          have HO : Hid (∃ s, Oq.O1 At W w5 p s [] ∧ Q19.One s 12 (k : Int) (x - (j + 1))) := ⟨_, hq, H1.out⟩
          clear hq H1 HO1
          go_wp2_with fail
          go_roundw
          case rel => exact ⟨j + 1, by omega, rfl, HO⟩
          case measure => simp only [intOf]; omega
        · obtain rfl : j = n := by omega
          have ij : ¬ ((j : Int) < (j : Int)) := by omega
          obtain ⟨y, hy⟩ : ∃ y : Nat, x - j = y := ⟨_, rfl⟩
          have HY : Hid (((x : Int) - (j : Int) < 0 → y = 0) ∧ (0 ≤ (x : Int) - (j : Int) → (x : Int) - (j : Int) = (y : Int))) := (⟨by omega, by omega⟩ : ((x : Int) - (j : Int) < 0 → y = 0) ∧ (0 ≤ (x : Int) - (j : Int) → (x : Int) - (j : Int) = (y : Int)))
          obtain ⟨m, hm⟩ : ∃ m, (k + 1) % 12 = m := ⟨_, rfl⟩
          have em : ((k : Int) + 1).tmod 12 = (m : Int) := by rw [Int.tmod_eq_emod_of_nonneg (by omega)]; omega
          have HMk : Hid ((m : Int) ≠ (k : Int) ∧ (Lit.int .i64 (m : Int)).wf = true) := (⟨by omega, wf19 (by omega)⟩ : (m : Int) ≠ (k : Int) ∧ (Lit.int .i64 (m : Int)).wf = true)
          rw [hy] at HO
          obtain ⟨s, ho, h1⟩ := HO.out
          have HO1 : Hid (Oq.O1 At W wr p s []) := ho
          have H1 : Hid (Q19.One s 12 (k : Int) y) := h1
          clear ho h1 HO hy HGood hm
          go_wp2_with fail
          refine (HGet.out _ s _ _ y HO1.out HKw.out H1.out.got).mono ?_
          rintro e w5 ⟨rfl, hq⟩
          replace HO1 : Hid (Oq.O1 At W w5 p s []) := hq
          clear hq
          by_cases hneg : (x : Int) - (j : Int) < 0
          · obtain rfl := HY.out.1 hneg
            have hneg' : ¬ (0 < (x : Int) - (j : Int)) := by omega
            have hneg2 : (x : Int) - (j : Int) ≤ 0 := by omega
            go_wp2_with fail
            all_goals
              refine (HGet.out _ s _ _ 0 HO1.out HMk.out.2 (H1.out.other _ HMk.out.1)).mono ?_
              rintro e w6 ⟨rfl, hq⟩
              have HB : Hid (Below W.heap.size W w6) := hq.bel
              clear hq HO1 H1 HGet
              go_wp2
              go_ret
              exact ⟨rfl, HB.out⟩
          · have hpos : 0 ≤ (x : Int) - (j : Int) := by omega
            have hy := HY.out.2 hpos
            go_wp2_with fail
            all_goals
              refine (HGet.out _ s _ _ 0 HO1.out HMk.out.2 (H1.out.other _ HMk.out.1)).mono ?_
              rintro e w6 ⟨rfl, hq⟩
              have HB : Hid (Below W.heap.size W w6) := hq.bel
              clear hq HO1 H1 HGet
              go_wp2
              go_ret
              exact ⟨rfl, HB.out⟩
end Go.Proofs.Ytdkecdlgiomloaa.statusBounds
