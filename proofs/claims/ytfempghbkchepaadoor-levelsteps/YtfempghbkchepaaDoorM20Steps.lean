/- LevelSteps: for every two bytes: how bad it is by the greatest and the least counter; no condition. -/
import Derived.Test.YtfempghbkchepaaDoorB20
import Derived.Test.YtfempghbkchepaaDoorU2
import Derived.ProofKit
import Derived.OpenShut
import Derived.Deep.CutBlock
namespace Go.Proofs.YtfempghbkchepaaDoor.levelSteps
open Go.ChangeShapes Go.WideShapes Go.ChangeAt Go.RowKit
set_option linter.unusedVariables false
variable {At : Ob.A (List Nat)} {T : World → Prop}
set_option maxRecDepth 100000 in
set_option maxHeartbeats 8000000 in
theorem walkA (S : StatusSpec At) (L : LevelSpec At T) (a0 : Int) (w0 : (Lit.int .u8 a0).wf = true) (a1 : Int) (w1 : (Lit.int .u8 a1).wf = true) (W : World) (hG : ∀ w', Below W.heap.size W w' → T w') : Calls Tryd.prog 5 #[.int .u8 a0, .int .u8 a1] W fun e w' => e = .returned (.bool true) ∧ Below W.heap.size W w' := by
  have HG : Hid (∀ w', Below W.heap.size W w' → T w') := hG
  clear hG
  obtain ⟨U, rfl, hU⟩ := natU8w w0
  obtain ⟨V, rfl, hV⟩ := natU8w w1
  obtain ⟨x, hx⟩ : ∃ x, U % 8 = x := ⟨_, rfl⟩
  have lx : x < 8 := by omega
  have tx : (U : Int).tmod 8 = (x : Int) := by rw [Int.tmod_eq_emod_of_nonneg (by omega)]; omega
  have ex : (U : Int) % 8 = (x : Int) := by omega
  obtain ⟨y, hy⟩ : ∃ y, V % 8 = y := ⟨_, rfl⟩
  have ly : y < 8 := by omega
  have ty : (V : Int).tmod 8 = (y : Int) := by rw [Int.tmod_eq_emod_of_nonneg (by omega)]; omega
  have ey : (V : Int) % 8 = (y : Int) := by omega
  clear hx hy w0 w1
  go_enter Tryd.func5, Tryd.ntmps5
  go_wp2_with fail
  refine (known20_any S L _ HG.out).mono ?_
  rintro e w1 ⟨rfl, hb⟩
  have HB : Hid (Below W.heap.size W w1) := hb
  clear hb
  go_wp2_with fail
  refine (Oq.O1.make (S.new w1 2 (by decide)) HB.out).mono ?_
  rintro e w2 ⟨p, rfl, hq⟩
  have HO : Hid (Oq.O1 At W w2 p [0, 0] []) := hq
  clear hq HB
  go_wp2_with fail
  go_loopw [8] (fun vi wr => ∃ i : Nat, i ≤ x ∧ vi = .int .i64 (i : Int) ∧ Hid (Oq.O1 At W wr p [i, 0] [])) (fun vi _ => x - (intOf vi).toNat)
  case atStart => exact ⟨0, Nat.zero_le _, rfl, HO⟩
  case round =>
    clear HO
    obtain ⟨i, hi, rfl, HO⟩ := hrel
    by_cases hix : i < x
    · have ii : (i : Int) < (x : Int) := by omega
      have e1 : Q19.up [i, 0] 0 = [i + 1, 0] := by have := Q19.up_nat (l := [i, 0]) (k := 0) (x := i) rfl; rw [show min 7 (i + 1) = i + 1 by omega] at this; exact this
      go_wp2_with fail
      refine (HO.out.turn (fun F hF => S.bad _ p F _ 0 (by decide) hF)).mono ?_
      rintro e w3 ⟨rfl, hq⟩
      rw [e1] at hq
      replace HO : Hid (Oq.O1 At W w3 p [i + 1, 0] []) := hq
      clear hq e1
      go_wp2_with fail
      go_roundw
      case rel => exact ⟨i + 1, by omega, rfl, HO⟩
      case measure => simp only [intOf]; omega
    · obtain rfl : i = x := by omega
      have ii : ¬ ((i : Int) < (i : Int)) := by omega
      go_wp2_with fail
      go_loopw [9] (fun vj wr => ∃ j : Nat, j ≤ y ∧ vj = .int .i64 (j : Int) ∧ Hid (Oq.O1 At W wr p [i, j] [])) (fun vj _ => y - (intOf vj).toNat)
      case atStart => exact ⟨0, Nat.zero_le _, rfl, HO⟩
      case round =>
        clear HO
        obtain ⟨j, hj, rfl, HO⟩ := hrel
        by_cases hjy : j < y
        · have ij : (j : Int) < (y : Int) := by omega
          have e1 : Q19.up [i, j] 1 = [i, j + 1] := by have := Q19.up_nat (l := [i, j]) (k := 1) (x := j) rfl; rw [show min 7 (j + 1) = j + 1 by omega] at this; exact this
          go_wp2_with fail
          refine (HO.out.turn (fun F hF => S.bad _ p F _ 1 (by decide) hF)).mono ?_
          rintro e w4 ⟨rfl, hq⟩
          rw [e1] at hq
          replace HO : Hid (Oq.O1 At W w4 p [i, j + 1] []) := hq
          clear hq e1
          go_wp2_with fail
          go_roundw
          case rel => exact ⟨j + 1, by omega, rfl, HO⟩
          case measure => simp only [intOf]; omega
        · obtain rfl : j = y := by omega
          have ij : ¬ ((j : Int) < (j : Int)) := by omega
          obtain ⟨M, hM⟩ : ∃ M, max i j = M := ⟨_, rfl⟩
          obtain ⟨N, hN⟩ : ∃ N, min i j = N := ⟨_, rfl⟩
          have iM : max (i : Int) (j : Int) = (M : Int) := by omega
          have iN : min (i : Int) (j : Int) = (N : Int) := by omega
          have hMN : N ≤ M := by omega
          have hM7 : M ≤ 7 := by omega
          have HL : Hid (Q19.lev [i, j] = if M = 7 then 2 else if 2 < M - N then 1 else 0) := by show _ = _; rw [Q19.lev_two, hM, hN]
          have HIs : Hid (max (i : Int) (j : Int) = (M : Int) ∧ min (i : Int) (j : Int) = (N : Int)) := ⟨iM, iN⟩
          clear hM hN
          by_cases h2 : 2 < M - N
          · have h2i : (2 : Int) < (M : Int) - (N : Int) := by omega
            have h2d : decide ((2 : Int) < (M : Int) - (N : Int)) = true := decide_eq_true h2i
            by_cases h7 : M = 7
            · skip
              have HL2 : Hid (Q19.lev [i, j] = 2) := by have := HL.out; rw [if_pos h7] at this; exact this
              have e1 : Q19.of_ [i, j] false false = 2 := HL2.out
              have e2 : Q19.of_ [i, j] true false = 3 := rfl
              have e3 : Q19.of_ [i, j] false true = 3 := rfl
              have h7b : ((M : Int) == 7) = true := by rw [h7]; rfl
              clear HL HL2 h7 h2
              go_wp2_with fail
              refine (HO.out.look S.is (fun F hF => L.of_ _ (HG.out _ HO.out.bel) p F _ false false hF)).mono ?_
              rintro e w5 ⟨rfl, hq⟩
              replace HO : Hid (Oq.O1 At W w5 p _ []) := hq
              clear hq
              rw [e1]
              go_wp2_with fail
              refine (HO.out.look S.is (fun F hF => L.of_ _ (HG.out _ HO.out.bel) p F _ true false hF)).mono ?_
              rintro e w6 ⟨rfl, hq⟩
              replace HO : Hid (Oq.O1 At W w6 p _ []) := hq
              clear hq
              rw [e2]
              go_wp2_with fail
              refine (HO.out.look S.is (fun F hF => L.of_ _ (HG.out _ HO.out.bel) p F _ false true hF)).mono ?_
              rintro e w7 ⟨rfl, hq⟩
              replace HO : Hid (Oq.O1 At W w7 p _ []) := hq
              clear hq
              rw [e3]
              go_wp2_with fail
              refine (HO.out.look S.is (fun F hF => L.may _ (HG.out _ HO.out.bel) 2 (by decide))).mono ?_
              rintro e w8 ⟨rfl, hq⟩
              replace HO : Hid (Oq.O1 At W w8 p _ []) := hq
              clear hq
              rw [show Q19.may 2 = false by decide]
              go_wp2_with fail
              refine (HO.out.look S.is (fun F hF => L.beats _ (HG.out _ HO.out.bel) 2 (by decide))).mono ?_
              rintro e w9 ⟨rfl, hq⟩
              replace HO : Hid (Oq.O1 At W w9 p _ []) := hq
              clear hq
              rw [show Q19.beats 2 = true by decide]
              have HBz : Hid (Below W.heap.size W w9) := HO.out.bel
              clear HO
              go_wp2
              go_ret
              exact ⟨rfl, HBz.out⟩
            · skip
              have HL2 : Hid (Q19.lev [i, j] = 1) := by have := HL.out; rw [if_neg h7, if_pos h2] at this; exact this
              have e1 : Q19.of_ [i, j] false false = 1 := HL2.out
              have e2 : Q19.of_ [i, j] true false = 3 := rfl
              have e3 : Q19.of_ [i, j] false true = 3 := rfl
              have h7b : ((M : Int) == 7) = false := beq_eq_false_iff_ne.2 (by omega)
              clear HL HL2 h7 h2
              go_wp2_with fail
              refine (HO.out.look S.is (fun F hF => L.of_ _ (HG.out _ HO.out.bel) p F _ false false hF)).mono ?_
              rintro e w5 ⟨rfl, hq⟩
              replace HO : Hid (Oq.O1 At W w5 p _ []) := hq
              clear hq
              rw [e1]
              go_wp2_with fail
              refine (HO.out.look S.is (fun F hF => L.of_ _ (HG.out _ HO.out.bel) p F _ true false hF)).mono ?_
              rintro e w6 ⟨rfl, hq⟩
              replace HO : Hid (Oq.O1 At W w6 p _ []) := hq
              clear hq
              rw [e2]
              go_wp2_with fail
              refine (HO.out.look S.is (fun F hF => L.of_ _ (HG.out _ HO.out.bel) p F _ false true hF)).mono ?_
              rintro e w7 ⟨rfl, hq⟩
              replace HO : Hid (Oq.O1 At W w7 p _ []) := hq
              clear hq
              rw [e3]
              go_wp2_with fail
              refine (HO.out.look S.is (fun F hF => L.may _ (HG.out _ HO.out.bel) 1 (by decide))).mono ?_
              rintro e w8 ⟨rfl, hq⟩
              replace HO : Hid (Oq.O1 At W w8 p _ []) := hq
              clear hq
              rw [show Q19.may 1 = true by decide]
              go_wp2_with fail
              refine (HO.out.look S.is (fun F hF => L.beats _ (HG.out _ HO.out.bel) 1 (by decide))).mono ?_
              rintro e w9 ⟨rfl, hq⟩
              replace HO : Hid (Oq.O1 At W w9 p _ []) := hq
              clear hq
              rw [show Q19.beats 1 = true by decide]
              have HBz : Hid (Below W.heap.size W w9) := HO.out.bel
              clear HO
              go_wp2
              go_ret
              exact ⟨rfl, HBz.out⟩
          · have h2i : ¬ ((2 : Int) < (M : Int) - (N : Int)) := by omega
            have h2d : decide ((2 : Int) < (M : Int) - (N : Int)) = false := decide_eq_false h2i
            by_cases h7 : M = 7
            · skip
              have HL2 : Hid (Q19.lev [i, j] = 2) := by have := HL.out; rw [if_pos h7] at this; exact this
              have e1 : Q19.of_ [i, j] false false = 2 := HL2.out
              have e2 : Q19.of_ [i, j] true false = 3 := rfl
              have e3 : Q19.of_ [i, j] false true = 3 := rfl
              have h7b : ((M : Int) == 7) = true := by rw [h7]; rfl
              clear HL HL2 h7 h2
              go_wp2_with fail
              refine (HO.out.look S.is (fun F hF => L.of_ _ (HG.out _ HO.out.bel) p F _ false false hF)).mono ?_
              rintro e w5 ⟨rfl, hq⟩
              replace HO : Hid (Oq.O1 At W w5 p _ []) := hq
              clear hq
              rw [e1]
              go_wp2_with fail
              refine (HO.out.look S.is (fun F hF => L.of_ _ (HG.out _ HO.out.bel) p F _ true false hF)).mono ?_
              rintro e w6 ⟨rfl, hq⟩
              replace HO : Hid (Oq.O1 At W w6 p _ []) := hq
              clear hq
              rw [e2]
              go_wp2_with fail
              refine (HO.out.look S.is (fun F hF => L.of_ _ (HG.out _ HO.out.bel) p F _ false true hF)).mono ?_
              rintro e w7 ⟨rfl, hq⟩
              replace HO : Hid (Oq.O1 At W w7 p _ []) := hq
              clear hq
              rw [e3]
              go_wp2_with fail
              refine (HO.out.look S.is (fun F hF => L.may _ (HG.out _ HO.out.bel) 2 (by decide))).mono ?_
              rintro e w8 ⟨rfl, hq⟩
              replace HO : Hid (Oq.O1 At W w8 p _ []) := hq
              clear hq
              rw [show Q19.may 2 = false by decide]
              go_wp2_with fail
              refine (HO.out.look S.is (fun F hF => L.beats _ (HG.out _ HO.out.bel) 2 (by decide))).mono ?_
              rintro e w9 ⟨rfl, hq⟩
              replace HO : Hid (Oq.O1 At W w9 p _ []) := hq
              clear hq
              rw [show Q19.beats 2 = true by decide]
              have HBz : Hid (Below W.heap.size W w9) := HO.out.bel
              clear HO
              go_wp2
              go_ret
              exact ⟨rfl, HBz.out⟩
            · skip
              have HL2 : Hid (Q19.lev [i, j] = 0) := by have := HL.out; rw [if_neg h7, if_neg h2] at this; exact this
              have e1 : Q19.of_ [i, j] false false = 0 := HL2.out
              have e2 : Q19.of_ [i, j] true false = 3 := rfl
              have e3 : Q19.of_ [i, j] false true = 3 := rfl
              have h7b : ((M : Int) == 7) = false := beq_eq_false_iff_ne.2 (by omega)
              clear HL HL2 h7 h2
              go_wp2_with fail
              refine (HO.out.look S.is (fun F hF => L.of_ _ (HG.out _ HO.out.bel) p F _ false false hF)).mono ?_
              rintro e w5 ⟨rfl, hq⟩
              replace HO : Hid (Oq.O1 At W w5 p _ []) := hq
              clear hq
              rw [e1]
              go_wp2_with fail
              refine (HO.out.look S.is (fun F hF => L.of_ _ (HG.out _ HO.out.bel) p F _ true false hF)).mono ?_
              rintro e w6 ⟨rfl, hq⟩
              replace HO : Hid (Oq.O1 At W w6 p _ []) := hq
              clear hq
              rw [e2]
              go_wp2_with fail
              refine (HO.out.look S.is (fun F hF => L.of_ _ (HG.out _ HO.out.bel) p F _ false true hF)).mono ?_
              rintro e w7 ⟨rfl, hq⟩
              replace HO : Hid (Oq.O1 At W w7 p _ []) := hq
              clear hq
              rw [e3]
              go_wp2_with fail
              refine (HO.out.look S.is (fun F hF => L.may _ (HG.out _ HO.out.bel) 0 (by decide))).mono ?_
              rintro e w8 ⟨rfl, hq⟩
              replace HO : Hid (Oq.O1 At W w8 p _ []) := hq
              clear hq
              rw [show Q19.may 0 = true by decide]
              go_wp2_with fail
              refine (HO.out.look S.is (fun F hF => L.beats _ (HG.out _ HO.out.bel) 0 (by decide))).mono ?_
              rintro e w9 ⟨rfl, hq⟩
              replace HO : Hid (Oq.O1 At W w9 p _ []) := hq
              clear hq
              rw [show Q19.beats 0 = true by decide]
              have HBz : Hid (Below W.heap.size W w9) := HO.out.bel
              clear HO
              go_wp2
              go_ret
              exact ⟨rfl, HBz.out⟩
end Go.Proofs.YtfempghbkchepaaDoor.levelSteps
