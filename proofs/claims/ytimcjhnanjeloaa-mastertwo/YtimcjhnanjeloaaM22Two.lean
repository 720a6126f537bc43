/- MasterTwo: for every three bytes: of two that both hear one another's beats only the lesser rank leads in the end; no condition. -/
import Derived.Test.YtimcjhnanjeloaaB22
import Derived.Test.YtimcjhnanjeloaaC22
import Derived.Test.YtimcjhnanjeloaaM22T
import Derived.ProofKit
import Derived.OpenShut
import Derived.Deep.CutBlock
namespace Go.Proofs.Ytimcjhnanjeloaa.masterTwo
open Go.ChangeShapes Go.WideShapes Go.ChangeAt Go.RowKit
set_option linter.unusedVariables false
variable {At : Ob.A Q22.St}
set_option maxRecDepth 100000 in
set_option maxHeartbeats 8000000 in
theorem walkA (S : MasterSpec At) (a0 : Int) (w0 : (Lit.int .u8 a0).wf = true) (a1 : Int) (w1 : (Lit.int .u8 a1).wf = true) (a2 : Int) (w2 : (Lit.int .u8 a2).wf = true) (W : World) : Calls Try.prog 4 #[.int .u8 a0, .int .u8 a1, .int .u8 a2] W fun e w' => e = .returned (.bool true) ∧ Below W.heap.size W w' := by
  obtain ⟨U, rfl, hU⟩ := natU8w w0
  obtain ⟨V, rfl, hV⟩ := natU8w w1
  obtain ⟨X, rfl, hX⟩ := natU8w w2
  obtain ⟨P, hP⟩ : ∃ P, U % 8 = P := ⟨_, rfl⟩
  have lP : P < 8 := by omega
  have tP : (U : Int).tmod 8 = (P : Int) := by rw [Int.tmod_eq_emod_of_nonneg (by omega)]; omega
  have eP : (U : Int) % 8 = (P : Int) := by omega
  obtain ⟨Q, hQ⟩ : ∃ Q, V % 8 = Q := ⟨_, rfl⟩
  have lQ : Q < 8 := by omega
  have tQ : (V : Int).tmod 8 = (Q : Int) := by rw [Int.tmod_eq_emod_of_nonneg (by omega)]; omega
  have eQ : (V : Int) % 8 = (Q : Int) := by omega
  obtain ⟨n, hn⟩ : ∃ n, X % 10 = n := ⟨_, rfl⟩
  have ln : n < 10 := by omega
  have tn : (X : Int).tmod 10 = (n : Int) := by rw [Int.tmod_eq_emod_of_nonneg (by omega)]; omega
  have en : (X : Int) % 10 = (n : Int) := by omega
  clear hP hQ hn w0 w1 w2
  go_enter Try.func4, Try.ntmps4
  go_wp2_with fail
  refine (known22_any S _).mono ?_
  rintro e w1 ⟨rfl, hb⟩
  have HB : Hid (Below W.heap.size W w1) := hb
  clear hb
  by_cases hpq : P = Q
  · subst hpq
    go_wp2
    go_ret
    exact ⟨rfl, HB.out⟩
  have hne : ((P : Int) == (Q : Int)) = false := beq_eq_false_iff_ne.2 (by omega)
  have HWf : Hid ((Lit.int .i64 (P : Int)).wf = true ∧ (Lit.int .i64 (Q : Int)).wf = true) := ⟨wf22 (by omega), wf22 (by omega)⟩
  go_wp2_with fail
  refine (Oq.O1.make (S.new w1 (P : Int) HWf.out.1) HB.out).mono ?_
  rintro e w2 ⟨p, rfl, hq⟩
  have HO : Hid (Oq.O1 At W w2 p (Q22.mk (P : Int)) []) := hq
  clear hq HB
  go_wp2_with fail
  refine (HO.out.make2 S.is (fun F hF => S.new _ (Q : Int) HWf.out.2)).mono ?_
  rintro e w3 ⟨q, rfl, hq⟩
  rw [Q22.t0x P Q, Q22.t0y P Q] at hq
  have HT : Hid (Oq.O2 At At W w3 p (Q22.tx P Q 0) q (Q22.ty P Q 0) []) := hq
  clear hq HO hne
  go_wp2_with fail
  go_loopw [11] (fun vi wr => ∃ i : Nat, i ≤ n + 3 ∧ vi = .int .i64 (i : Int) ∧ Hid (Oq.O2 At At W wr p (Q22.tx P Q i) q (Q22.ty P Q i) [])) (fun vi _ => (n + 3) - (intOf vi).toNat)
  case atStart => exact ⟨0, Nat.zero_le _, rfl, HT⟩
  case round =>
    clear HT
    obtain ⟨i, hi, rfl, HT⟩ := hrel
    by_cases hil : i < n + 3
    · have ii : (i : Int) < (n : Int) + 3 := by omega
      have ib : (i : Int) < 1000 := by omega
      rcases Nat.mod_two_eq_zero_or_one i with h2 | h2
      · have h2t : (i : Int).tmod 2 = 0 := by rw [Int.tmod_eq_emod_of_nonneg (by omega)]; omega
        have h2e : (i : Int) % 2 = 0 := by omega
        have E1 : Hid (Q22.sent (Q22.tx P Q i) = Q22.tx P Q (i + 1)) := Q22.te1 h2
        have E2 : Hid (Q22.beat (Q22.ty P Q i) (P : Int) = Q22.ty P Q (i + 1)) := Q22.te2 h2
        clear h2
        go_wp2_with fail
        refine (HT.out.turn S.is (fun F hF => S.sent _ p F _ hF)).mono ?_
        rintro e w4 ⟨rfl, hq⟩
        rw [E1.out] at hq
        replace HT : Hid (Oq.O2 At At W w4 p (Q22.tx P Q (i + 1)) q (Q22.ty P Q i) []) := hq
        clear hq
        go_wp2_with fail
        refine (HT.out.turn2 S.is (fun F hF => S.beat _ q F _ _ HWf.out.1 hF)).mono ?_
        rintro e w5 ⟨rfl, hq⟩
        rw [E2.out] at hq
        replace HT : Hid (Oq.O2 At At W w5 p (Q22.tx P Q (i + 1)) q (Q22.ty P Q (i + 1)) []) := hq
        clear hq
        clear E1 E2
        go_wp2_with fail
        go_roundw
        case rel => exact ⟨i + 1, by omega, rfl, HT⟩
        case measure => simp only [intOf]; omega
      · have h2t : (i : Int).tmod 2 = 1 := by rw [Int.tmod_eq_emod_of_nonneg (by omega)]; omega
        have h2e : (i : Int) % 2 = 1 := by omega
        have E1 : Hid (Q22.sent (Q22.ty P Q i) = Q22.ty P Q (i + 1)) := Q22.to1 h2
        have E2 : Hid (Q22.beat (Q22.tx P Q i) (Q : Int) = Q22.tx P Q (i + 1)) := Q22.to2 h2
        clear h2
        go_wp2_with fail
        refine (HT.out.turn2 S.is (fun F hF => S.sent _ q F _ hF)).mono ?_
        rintro e w4 ⟨rfl, hq⟩
        rw [E1.out] at hq
        replace HT : Hid (Oq.O2 At At W w4 p (Q22.tx P Q i) q (Q22.ty P Q (i + 1)) []) := hq
        clear hq
        go_wp2_with fail
        refine (HT.out.turn S.is (fun F hF => S.beat _ p F _ _ HWf.out.2 hF)).mono ?_
        rintro e w5 ⟨rfl, hq⟩
        rw [E2.out] at hq
        replace HT : Hid (Oq.O2 At At W w5 p (Q22.tx P Q (i + 1)) q (Q22.ty P Q (i + 1)) []) := hq
        clear hq
        clear E1 E2
        go_wp2_with fail
        go_roundw
        case rel => exact ⟨i + 1, by omega, rfl, HT⟩
        case measure => simp only [intOf]; omega
    · obtain rfl : i = n + 3 := by omega
      have ii : ¬ ((n : Int) + 3 < (n : Int) + 3) := by omega
      obtain ⟨M, hM⟩ : ∃ M : Nat, min P Q = M := ⟨_, rfl⟩
      have HT2 : Hid (∃ L : Nat, (L = P ∨ L = Q) ∧ (0 < 0 → L = M) ∧ Oq.O2 At At W wr p ⟨(P : Int), 2, (L : Int)⟩ q ⟨(Q : Int), 2, (L : Int)⟩ []) := by
        obtain ⟨L, h1, h2, h3⟩ := Q22.tend P Q (n + 3) (by omega)
        have := HT.out
        rw [h2, h3] at this
        exact ⟨L, h1, fun h => absurd h (Nat.lt_irrefl 0), this⟩
      have HMm : Hid (min P Q = M) := hM
      clear HT hM
      go_wp2_with fail
      go_loopw [12] (fun vj wr => ∃ j : Nat, j ≤ 4 ∧ vj = .int .i64 (j : Int) ∧ Hid (∃ L : Nat, (L = P ∨ L = Q) ∧ (0 < j → L = M) ∧ Oq.O2 At At W wr p ⟨(P : Int), 2, (L : Int)⟩ q ⟨(Q : Int), 2, (L : Int)⟩ [])) (fun vj _ => 4 - (intOf vj).toNat)
      case atStart => exact ⟨0, Nat.zero_le _, rfl, HT2⟩
      case round =>
        clear HT2
        obtain ⟨j, hj, rfl, HTj⟩ := hrel
        by_cases hj4 : j < 4
        · have ij : (j : Int) < 4 := by omega
          obtain ⟨L, hLj, _, ho⟩ := HTj.out
          have HT : Hid (Oq.O2 At At W wr p ⟨(P : Int), 2, (L : Int)⟩ q ⟨(Q : Int), 2, (L : Int)⟩ []) := ho
          have hM := HMm.out
          clear ho HTj
          rcases Nat.lt_or_gt_of_ne hpq with hlt | hlt
          · rcases hLj with hLj | hLj
            · skip
              obtain rfl : P = L := hLj.symm
              have dx : Q22.leads ⟨(P : Int), 2, (P : Int)⟩ = true := by rw [Q22.tld]; exact decide_eq_true (by omega)
              have dy : Q22.leads ⟨(Q : Int), 2, (P : Int)⟩ = false := by rw [Q22.tld]; exact decide_eq_false (by omega)
              obtain rfl : P = M := by omega
              have dpq : decide ((P : Int) < (Q : Int)) = true := decide_eq_true (by omega)
              clear hM
              go_wp2_with fail
              refine (HT.out.look S.is S.is (fun F hF => S.leads _ p F _ hF)).mono ?_
              rintro e w4 ⟨rfl, hq⟩
              replace HT : Hid (Oq.O2 At At W w4 p ⟨(P : Int), 2, (P : Int)⟩ q ⟨(Q : Int), 2, (P : Int)⟩ []) := hq
              clear hq
              rw [dx]
              go_wp2_with fail
              refine (HT.out.look2 S.is S.is (fun F hF => S.leads _ q F _ hF)).mono ?_
              rintro e w5 ⟨rfl, hq⟩
              replace HT : Hid (Oq.O2 At At W w5 p ⟨(P : Int), 2, (P : Int)⟩ q ⟨(Q : Int), 2, (P : Int)⟩ []) := hq
              clear hq
              rw [dy]
              go_wp2_with fail
              refine (HT.out.turn S.is (fun F hF => S.sent _ p F _ hF)).mono ?_
              rintro e w6 ⟨rfl, hq⟩
              rw [Q22.tst] at hq
              replace HT : Hid (Oq.O2 At At W w6 p ⟨(P : Int), 2, (P : Int)⟩ q ⟨(Q : Int), 2, (P : Int)⟩ []) := hq
              clear hq
              go_wp2_with fail
              refine (HT.out.turn2 S.is (fun F hF => S.beat _ q F _ _ HWf.out.1 hF)).mono ?_
              rintro e w7 ⟨rfl, hq⟩
              rw [Q22.tbt] at hq
              replace HT : Hid (Oq.O2 At At W w7 p ⟨(P : Int), 2, (P : Int)⟩ q ⟨(Q : Int), 2, (P : Int)⟩ []) := hq
              clear hq
              have HTn : Hid (∃ L : Nat, (L = P ∨ L = Q) ∧ (0 < j + 1 → L = P) ∧ Oq.O2 At At W w7 p ⟨(P : Int), 2, (L : Int)⟩ q ⟨(Q : Int), 2, (L : Int)⟩ []) := ⟨P, by first | exact Or.inl rfl | exact Or.inr rfl, fun _ => rfl, HT.out⟩
              clear HT dpq
              go_wp2_with fail
              go_roundw
              case rel => exact ⟨j + 1, by omega, rfl, HTn⟩
              case measure => simp only [intOf]; omega
            · skip
              obtain rfl : Q = L := hLj.symm
              have dx : Q22.leads ⟨(P : Int), 2, (Q : Int)⟩ = true := by rw [Q22.tld]; exact decide_eq_true (by omega)
              have dy : Q22.leads ⟨(Q : Int), 2, (Q : Int)⟩ = true := by rw [Q22.tld]; exact decide_eq_true (by omega)
              obtain rfl : P = M := by omega
              have dpq : decide ((P : Int) < (Q : Int)) = true := decide_eq_true (by omega)
              clear hM
              go_wp2_with fail
              refine (HT.out.look S.is S.is (fun F hF => S.leads _ p F _ hF)).mono ?_
              rintro e w4 ⟨rfl, hq⟩
              replace HT : Hid (Oq.O2 At At W w4 p ⟨(P : Int), 2, (Q : Int)⟩ q ⟨(Q : Int), 2, (Q : Int)⟩ []) := hq
              clear hq
              rw [dx]
              go_wp2_with fail
              refine (HT.out.look2 S.is S.is (fun F hF => S.leads _ q F _ hF)).mono ?_
              rintro e w5 ⟨rfl, hq⟩
              replace HT : Hid (Oq.O2 At At W w5 p ⟨(P : Int), 2, (Q : Int)⟩ q ⟨(Q : Int), 2, (Q : Int)⟩ []) := hq
              clear hq
              rw [dy]
              go_wp2_with fail
              refine (HT.out.turn S.is (fun F hF => S.sent _ p F _ hF)).mono ?_
              rintro e w6 ⟨rfl, hq⟩
              rw [Q22.tst] at hq
              replace HT : Hid (Oq.O2 At At W w6 p ⟨(P : Int), 2, (P : Int)⟩ q ⟨(Q : Int), 2, (Q : Int)⟩ []) := hq
              clear hq
              go_wp2_with fail
              refine (HT.out.turn2 S.is (fun F hF => S.beat _ q F _ _ HWf.out.1 hF)).mono ?_
              rintro e w7 ⟨rfl, hq⟩
              rw [Q22.tbt] at hq
              replace HT : Hid (Oq.O2 At At W w7 p ⟨(P : Int), 2, (P : Int)⟩ q ⟨(Q : Int), 2, (P : Int)⟩ []) := hq
              clear hq
              have HTn : Hid (∃ L : Nat, (L = P ∨ L = Q) ∧ (0 < j + 1 → L = P) ∧ Oq.O2 At At W w7 p ⟨(P : Int), 2, (L : Int)⟩ q ⟨(Q : Int), 2, (L : Int)⟩ []) := ⟨P, by first | exact Or.inl rfl | exact Or.inr rfl, fun _ => rfl, HT.out⟩
              clear HT dpq
              go_wp2_with fail
              go_roundw
              case rel => exact ⟨j + 1, by omega, rfl, HTn⟩
              case measure => simp only [intOf]; omega
          · rcases hLj with hLj | hLj
            · skip
              obtain rfl : P = L := hLj.symm
              have dx : Q22.leads ⟨(P : Int), 2, (P : Int)⟩ = true := by rw [Q22.tld]; exact decide_eq_true (by omega)
              have dy : Q22.leads ⟨(Q : Int), 2, (P : Int)⟩ = true := by rw [Q22.tld]; exact decide_eq_true (by omega)
              obtain rfl : Q = M := by omega
              have dpq : decide ((P : Int) < (Q : Int)) = false := decide_eq_false (by omega)
              clear hM
              go_wp2_with fail
              refine (HT.out.look S.is S.is (fun F hF => S.leads _ p F _ hF)).mono ?_
              rintro e w4 ⟨rfl, hq⟩
              replace HT : Hid (Oq.O2 At At W w4 p ⟨(P : Int), 2, (P : Int)⟩ q ⟨(Q : Int), 2, (P : Int)⟩ []) := hq
              clear hq
              rw [dx]
              go_wp2_with fail
              refine (HT.out.look2 S.is S.is (fun F hF => S.leads _ q F _ hF)).mono ?_
              rintro e w5 ⟨rfl, hq⟩
              replace HT : Hid (Oq.O2 At At W w5 p ⟨(P : Int), 2, (P : Int)⟩ q ⟨(Q : Int), 2, (P : Int)⟩ []) := hq
              clear hq
              rw [dy]
              go_wp2_with fail
              refine (HT.out.look2 S.is S.is (fun F hF => S.leads _ q F _ hF)).mono ?_
              rintro e w5b ⟨rfl, hq⟩
              replace HT : Hid (Oq.O2 At At W w5b p ⟨(P : Int), 2, (P : Int)⟩ q ⟨(Q : Int), 2, (P : Int)⟩ []) := hq
              clear hq
              rw [dy]
              go_wp2_with fail
              refine (HT.out.turn2 S.is (fun F hF => S.sent _ q F _ hF)).mono ?_
              rintro e w6 ⟨rfl, hq⟩
              rw [Q22.tst] at hq
              replace HT : Hid (Oq.O2 At At W w6 p ⟨(P : Int), 2, (P : Int)⟩ q ⟨(Q : Int), 2, (Q : Int)⟩ []) := hq
              clear hq
              go_wp2_with fail
              refine (HT.out.turn S.is (fun F hF => S.beat _ p F _ _ HWf.out.2 hF)).mono ?_
              rintro e w7 ⟨rfl, hq⟩
              rw [Q22.tbt] at hq
              replace HT : Hid (Oq.O2 At At W w7 p ⟨(P : Int), 2, (Q : Int)⟩ q ⟨(Q : Int), 2, (Q : Int)⟩ []) := hq
              clear hq
              have HTn : Hid (∃ L : Nat, (L = P ∨ L = Q) ∧ (0 < j + 1 → L = Q) ∧ Oq.O2 At At W w7 p ⟨(P : Int), 2, (L : Int)⟩ q ⟨(Q : Int), 2, (L : Int)⟩ []) := ⟨Q, by first | exact Or.inl rfl | exact Or.inr rfl, fun _ => rfl, HT.out⟩
              clear HT dpq
              go_wp2_with fail
              go_roundw
              case rel => exact ⟨j + 1, by omega, rfl, HTn⟩
              case measure => simp only [intOf]; omega
            · skip
              obtain rfl : Q = L := hLj.symm
              have dx : Q22.leads ⟨(P : Int), 2, (Q : Int)⟩ = false := by rw [Q22.tld]; exact decide_eq_false (by omega)
              have dy : Q22.leads ⟨(Q : Int), 2, (Q : Int)⟩ = true := by rw [Q22.tld]; exact decide_eq_true (by omega)
              obtain rfl : Q = M := by omega
              have dpq : decide ((P : Int) < (Q : Int)) = false := decide_eq_false (by omega)
              clear hM
              go_wp2_with fail
              refine (HT.out.look S.is S.is (fun F hF => S.leads _ p F _ hF)).mono ?_
              rintro e w4 ⟨rfl, hq⟩
              replace HT : Hid (Oq.O2 At At W w4 p ⟨(P : Int), 2, (Q : Int)⟩ q ⟨(Q : Int), 2, (Q : Int)⟩ []) := hq
              clear hq
              rw [dx]
              go_wp2_with fail
              refine (HT.out.look2 S.is S.is (fun F hF => S.leads _ q F _ hF)).mono ?_
              rintro e w5b ⟨rfl, hq⟩
              replace HT : Hid (Oq.O2 At At W w5b p ⟨(P : Int), 2, (Q : Int)⟩ q ⟨(Q : Int), 2, (Q : Int)⟩ []) := hq
              clear hq
              rw [dy]
              go_wp2_with fail
              refine (HT.out.turn2 S.is (fun F hF => S.sent _ q F _ hF)).mono ?_
              rintro e w6 ⟨rfl, hq⟩
              rw [Q22.tst] at hq
              replace HT : Hid (Oq.O2 At At W w6 p ⟨(P : Int), 2, (Q : Int)⟩ q ⟨(Q : Int), 2, (Q : Int)⟩ []) := hq
              clear hq
              go_wp2_with fail
              refine (HT.out.turn S.is (fun F hF => S.beat _ p F _ _ HWf.out.2 hF)).mono ?_
              rintro e w7 ⟨rfl, hq⟩
              rw [Q22.tbt] at hq
              replace HT : Hid (Oq.O2 At At W w7 p ⟨(P : Int), 2, (Q : Int)⟩ q ⟨(Q : Int), 2, (Q : Int)⟩ []) := hq
              clear hq
              have HTn : Hid (∃ L : Nat, (L = P ∨ L = Q) ∧ (0 < j + 1 → L = Q) ∧ Oq.O2 At At W w7 p ⟨(P : Int), 2, (L : Int)⟩ q ⟨(Q : Int), 2, (L : Int)⟩ []) := ⟨Q, by first | exact Or.inl rfl | exact Or.inr rfl, fun _ => rfl, HT.out⟩
              clear HT dpq
              go_wp2_with fail
              go_roundw
              case rel => exact ⟨j + 1, by omega, rfl, HTn⟩
              case measure => simp only [intOf]; omega
        · obtain rfl : j = 4 := by omega
          obtain ⟨L, hLj, hLm, ho⟩ := HTj.out
          obtain rfl := hLm (by omega)
          have HT : Hid (Oq.O2 At At W wr p ⟨(P : Int), 2, (L : Int)⟩ q ⟨(Q : Int), 2, (L : Int)⟩ []) := ho
          have hM := HMm.out
          clear ho HTj hLm hLj
          rcases Nat.lt_or_gt_of_ne hpq with hlt | hlt
          · skip
            obtain rfl : P = L := by omega
            have dx : Q22.leads ⟨(P : Int), 2, (P : Int)⟩ = true := by rw [Q22.tld]; exact decide_eq_true (by omega)
            have dy : Q22.leads ⟨(Q : Int), 2, (P : Int)⟩ = false := by rw [Q22.tld]; exact decide_eq_false (by omega)
            have d1 : decide ((P : Int) < (Q : Int)) = true := decide_eq_true (by omega)
            have d2 : decide ((Q : Int) < (P : Int)) = false := decide_eq_false (by omega)
            have dmin : min (P : Int) (Q : Int) = (P : Int) := by omega
            have HLt : Hid (P < Q) := hlt
            clear hM hlt hpq
            go_wp2_with fail
            refine (HT.out.look S.is S.is (fun F hF => S.leads _ p F _ hF)).mono ?_
            rintro e w4 ⟨rfl, hq⟩
            replace HT : Hid (Oq.O2 At At W w4 p ⟨(P : Int), 2, (P : Int)⟩ q ⟨(Q : Int), 2, (P : Int)⟩ []) := hq
            clear hq
            rw [dx]
            go_wp2_with fail
            refine (HT.out.look2 S.is S.is (fun F hF => S.leads _ q F _ hF)).mono ?_
            rintro e w5 ⟨rfl, hq⟩
            replace HT : Hid (Oq.O2 At At W w5 p ⟨(P : Int), 2, (P : Int)⟩ q ⟨(Q : Int), 2, (P : Int)⟩ []) := hq
            clear hq
            rw [dy]
            go_wp2_with fail
            refine (HT.out.look S.is S.is (fun F hF => S.leader _ p F _ hF)).mono ?_
            rintro e w6 ⟨rfl, hq⟩
            replace HT : Hid (Oq.O2 At At W w6 p ⟨(P : Int), 2, (P : Int)⟩ q ⟨(Q : Int), 2, (P : Int)⟩ []) := hq
            clear hq
            dsimp only
            go_wp2_with fail
            refine (HT.out.look2 S.is S.is (fun F hF => S.leader _ q F _ hF)).mono ?_
            rintro e w7 ⟨rfl, hq⟩
            replace HT : Hid (Oq.O2 At At W w7 p ⟨(P : Int), 2, (P : Int)⟩ q ⟨(Q : Int), 2, (P : Int)⟩ []) := hq
            clear hq
            dsimp only
            have HBz : Hid (Below W.heap.size W w7) := HT.out.bel
            clear HT
            go_wp2
            go_ret
            refine ⟨?_, HBz.out⟩
            have := HLt.out
            simp
            omega
          · skip
            obtain rfl : Q = L := by omega
            have dx : Q22.leads ⟨(P : Int), 2, (Q : Int)⟩ = false := by rw [Q22.tld]; exact decide_eq_false (by omega)
            have dy : Q22.leads ⟨(Q : Int), 2, (Q : Int)⟩ = true := by rw [Q22.tld]; exact decide_eq_true (by omega)
            have d1 : decide ((P : Int) < (Q : Int)) = false := decide_eq_false (by omega)
            have d2 : decide ((Q : Int) < (P : Int)) = true := decide_eq_true (by omega)
            have dmin : min (P : Int) (Q : Int) = (Q : Int) := by omega
            have HLt : Hid (Q < P) := hlt
            clear hM hlt hpq
            go_wp2_with fail
            refine (HT.out.look S.is S.is (fun F hF => S.leads _ p F _ hF)).mono ?_
            rintro e w4 ⟨rfl, hq⟩
            replace HT : Hid (Oq.O2 At At W w4 p ⟨(P : Int), 2, (Q : Int)⟩ q ⟨(Q : Int), 2, (Q : Int)⟩ []) := hq
            clear hq
            rw [dx]
            go_wp2_with fail
            refine (HT.out.look2 S.is S.is (fun F hF => S.leads _ q F _ hF)).mono ?_
            rintro e w5 ⟨rfl, hq⟩
            replace HT : Hid (Oq.O2 At At W w5 p ⟨(P : Int), 2, (Q : Int)⟩ q ⟨(Q : Int), 2, (Q : Int)⟩ []) := hq
            clear hq
            rw [dy]
            go_wp2_with fail
            refine (HT.out.look S.is S.is (fun F hF => S.leader _ p F _ hF)).mono ?_
            rintro e w6 ⟨rfl, hq⟩
            replace HT : Hid (Oq.O2 At At W w6 p ⟨(P : Int), 2, (Q : Int)⟩ q ⟨(Q : Int), 2, (Q : Int)⟩ []) := hq
            clear hq
            dsimp only
            go_wp2_with fail
            refine (HT.out.look2 S.is S.is (fun F hF => S.leader _ q F _ hF)).mono ?_
            rintro e w7 ⟨rfl, hq⟩
            replace HT : Hid (Oq.O2 At At W w7 p ⟨(P : Int), 2, (Q : Int)⟩ q ⟨(Q : Int), 2, (Q : Int)⟩ []) := hq
            clear hq
            dsimp only
            have HBz : Hid (Below W.heap.size W w7) := HT.out.bel
            clear HT
            go_wp2
            go_ret
            refine ⟨?_, HBz.out⟩
            have := HLt.out
            simp
            omega

end Go.Proofs.Ytimcjhnanjeloaa.masterTwo
