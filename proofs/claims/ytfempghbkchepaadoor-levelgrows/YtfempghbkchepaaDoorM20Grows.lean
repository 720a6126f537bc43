/- LevelGrows: for every byte and slice of at most sixty bytes (more are let by): one more that is bad never makes it better; all as bad as each other is no spread; no condition. -/
import Derived.Test.YtfempghbkchepaaDoorB20
import Derived.Test.YtfempghbkchepaaDoorD19
import Derived.Test.YtfempghbkchepaaDoorU2
import Derived.ProofKit
import Derived.OpenShut
import Derived.Deep.CutBlock
namespace Go.Proofs.YtfempghbkchepaaDoor.levelGrows
open Go.ChangeShapes Go.WideShapes Go.ChangeAt Go.RowKit
set_option linter.unusedVariables false
variable {At : Ob.A (List Nat)} {T : World → Prop}
set_option maxRecDepth 100000 in
set_option maxHeartbeats 8000000 in
theorem walkA (S : StatusSpec At) (L : LevelSpec At T) (a0 : Int) (w0 : (Lit.int .u8 a0).wf = true) (s1 : Option Addr) (len1 cap1 : Nat) (W : World) (hG : ∀ w', Below W.heap.size W w' → T w') : Calls Tryd.prog 4 #[.int .u8 a0, .slice s1 len1 cap1] W fun e w' => e = .returned (.bool true) ∧ Below W.heap.size W w' := by
  have HG : Hid (∀ w', Below W.heap.size W w' → T w') := hG
  clear hG
  obtain ⟨U, rfl, hU⟩ := natU8w w0
  obtain ⟨c, hc⟩ : ∃ c, U % 6 = c := ⟨_, rfl⟩
  have lc : c < 6 := by omega
  have tc : (U : Int).tmod 6 = (c : Int) := by rw [Int.tmod_eq_emod_of_nonneg (by omega)]; omega
  have ec : (U : Int) % 6 = (c : Int) := by omega
  obtain ⟨k, hk⟩ : ∃ k, c + 1 = k := ⟨_, rfl⟩
  have HMk : Hid (Q19.mk (k : Int) = List.replicate k 0 ∧ Q19.One (Q19.mk (k : Int)) k 0 0) := by
    have e : Q19.held (k : Int) = k := by unfold Q19.held; omega
    refine ⟨by unfold Q19.mk; rw [e], ?_⟩
    have := Q19.one_mk (k : Int) 0
    rwa [e] at this
  have hkc : (c : Int) + 1 = (k : Int) := by omega
  have hk6 : k ≤ 6 := by omega
  have hk0 : 0 < k := by omega
  have HKw : Hid ((Lit.int .i64 (k : Int)).wf = true) := wf19 (by omega)
  have HK6 : Hid (k ≤ 6 ∧ 0 < k) := ⟨hk6, hk0⟩
  have kI : (k : Int) ≤ 6 := by omega
  have lci : (c : Int) < 6 := by omega
  clear hc w0 lc hU hk hk6 hk0
  go_enter Tryd.func4, Tryd.ntmps4
  go_wp2_with fail
  refine (known20_any S L _ HG.out).mono ?_
  rintro e w1 ⟨rfl, hb⟩
  have HB : Hid (Below W.heap.size W w1) := hb
  clear hb
  by_cases h60 : 60 < len1
  · have h60i : (60 : Int) < (len1 : Int) := by omega
    go_wp2
    go_ret
    exact ⟨rfl, HB.out⟩
  have h60i : ¬ ((60 : Int) < (len1 : Int)) := by omega
  have HN : Hid (len1 ≤ 60) := (by omega : len1 ≤ 60)
  clear h60
  go_wp2_with fail
  refine (Oq.O1.make (S.new w1 (k : Int) HKw.out) HB.out).mono ?_
  rintro e w2 ⟨p, rfl, hq⟩
  have HO : Hid (Oq.O1 At W w2 p (Q19.mk (k : Int)) []) := hq
  clear hq HB
  go_wp2_with fail
  refine (HO.out.make2 S.is (fun F hF => S.new _ (k : Int) HKw.out)).mono ?_
  rintro e w3 ⟨q, rfl, hq⟩
  have HT : Hid (∃ s, Q19.One s k 0 (min 7 0) ∧ Oq.O2 At At W w3 p s q (List.replicate k (min 7 0)) []) := by
    have h1 := HMk.out
    have hq2 := hq
    rw [h1.1] at hq2
    exact ⟨_, by rw [← h1.1]; exact h1.2, hq2⟩
  have hk6 : k ≤ 6 := HK6.out.1
  have hk0 : 0 < k := HK6.out.2
  clear hq HO HMk HKw hkc ec tc lci
  go_wp2_with fail
  go_loopw [8, 9, 10, 11, 12] (fun vl vi _v10 _v11 _v12 wr => ∃ i : Nat, i ≤ len1 ∧ vi = .int .i64 (i : Int) ∧ (∃ l : Nat, vl = .int .i64 (l : Int) ∧ l ≤ 2 ∧ (2 ≤ k → l = if min 7 i = 7 then 2 else if 2 < min 7 i then 1 else 0)) ∧ Hid (∃ s, Q19.One s k 0 (min 7 i) ∧ Oq.O2 At At W wr p s q (List.replicate k (min 7 i)) [])) (fun _ vi _ _ _ _ => len1 - (intOf vi).toNat)
  case atStart => exact ⟨0, Nat.zero_le _, rfl, ⟨0, rfl, by omega, fun _ => rfl⟩, HT⟩
  case round =>
    clear HT
    obtain ⟨i, hi, rfl, ⟨l, rfl, hl2, hl⟩, HTs⟩ := hrel
    by_cases hil : i < len1
    · have ii : (i : Int) < (len1 : Int) := by omega
      have ib : (i : Int) < 1000 := by have := HN.out; omega
      obtain ⟨s, h1, ho⟩ := HTs.out
      have H1 : Hid (Q19.One (Q19.up s 0) k 0 (min 7 (i + 1))) := by show Q19.One _ _ _ _; have := h1.up (by omega); rwa [show min 7 (min 7 i + 1) = min 7 (i + 1) by omega] at this
      have HT : Hid (Oq.O2 At At W wr p s q (List.replicate k (min 7 i)) []) := ho
      clear h1 ho HTs
      go_wp2_with fail
      refine (HT.out.turn S.is (fun F hF => S.bad _ p F _ 0 (by decide) hF)).mono ?_
      rintro e w4 ⟨rfl, hq⟩
      replace HT : Hid (Oq.O2 At At W w4 p (Q19.up s 0) q (List.replicate k (min 7 i)) []) := hq
      clear hq
      generalize Q19.up s 0 = s2 at HT H1
      go_wp2_with fail
      refine (HT.out.look S.is S.is (fun F hF => L.of_ _ (HG.out _ HT.out.bel) p F _ false false hF)).mono ?_
      rintro e w5 ⟨rfl, hq⟩
      replace HT : Hid (Oq.O2 At At W w5 p s2 q (List.replicate k (min 7 i)) []) := hq
      clear hq
      obtain ⟨l2, hl2e⟩ : ∃ l2, Q19.of_ s2 false false = l2 := ⟨_, rfl⟩
      have hle : l2 ≤ 2 := by rw [← hl2e]; exact Q19.lev_le s2
      have hln : 2 ≤ k → l2 = if min 7 (i + 1) = 7 then 2 else if 2 < min 7 (i + 1) then 1 else 0 := fun h => by rw [← hl2e]; exact H1.out.lev (by omega) h
      rw [hl2e]
      clear hl2e
      have hnw : 2 ≤ k → l ≤ l2 := fun h => by
        rw [hl h, hln h]
        by_cases a1 : min 7 i = 7
        · rw [if_pos a1, if_pos (by omega)]; exact Nat.le_refl _
        · rw [if_neg a1]
          by_cases a2 : 2 < min 7 i
          · rw [if_pos a2]; split; omega; rw [if_pos (by omega)]; exact Nat.le_refl _
          · rw [if_neg a2]; exact Nat.zero_le _
      have HLn : Hid (l2 ≤ 2 ∧ (2 ≤ k → l2 = if min 7 (i + 1) = 7 then 2 else if 2 < min 7 (i + 1) then 1 else 0)) := ⟨hle, hln⟩
      clear hl hln
      by_cases hk2 : 2 ≤ k
      · have hk2i : (1 : Int) < (k : Int) := by omega
        have hk2d : decide ((1 : Int) < (k : Int)) = true := decide_eq_true hk2i
        have hnl : ¬ ((l2 : Int) < (l : Int)) := by have := hnw hk2; omega
        have hnd : decide ((l2 : Int) < (l : Int)) = false := decide_eq_false hnl
        have hnn : ¬ l2 < l := by omega
        have hnd2 : decide (l2 < l) = false := decide_eq_false hnn
        clear hnw hk2
        go_wp2_with fail
        go_loopw [11] (fun vj wr => ∃ j : Nat, j ≤ k ∧ vj = .int .i64 (j : Int) ∧ Hid (Oq.O2 At At W wr p s2 q (Q19.part k j (min 7 i)) [])) (fun vj _ => k - (intOf vj).toNat)
        case atStart => exact ⟨0, Nat.zero_le _, rfl, by rw [Q19.part_zero]; exact HT⟩
        case round =>
          clear HT
          obtain ⟨j, hj, rfl, HT⟩ := hrel
          by_cases hjk : j < k
          · have ij : (j : Int) < (k : Int) := by omega
            have HJw : Hid ((Lit.int .i64 (j : Int)).wf = true) := wf19 (by omega)
            have HPu : Hid (Q19.up (Q19.part k j (min 7 i)) (j : Int) = Q19.part k (j + 1) (min 7 i)) := Q19.part_up hjk
            go_wp2_with fail
            refine (HT.out.turn2 S.is (fun F hF => S.bad _ q F _ (j : Int) HJw.out hF)).mono ?_
            rintro e w6 ⟨rfl, hq⟩
            rw [HPu.out] at hq
            replace HT : Hid (Oq.O2 At At W w6 p s2 q (Q19.part k (j + 1) (min 7 i)) []) := hq
            clear hq HPu
            go_wp2_with fail
            go_roundw
            case rel => exact ⟨j + 1, by omega, rfl, HT⟩
            case measure => simp only [intOf]; omega
          · obtain rfl : j = k := by omega
            have ij : ¬ ((j : Int) < (j : Int)) := by omega
            rw [Q19.part_end, show min 7 (min 7 i + 1) = min 7 (i + 1) by omega] at HT
            have HLv : Hid (Q19.of_ (List.replicate j (min 7 (i + 1))) false false = if min 7 (i + 1) = 7 then 2 else 0) := Q19.lev_rep j _ hk0
            have HTn : Hid (∀ w', Oq.O2 At At W w' p s2 q (List.replicate j (min 7 (i + 1))) [] → ∃ s, Q19.One s j 0 (min 7 (i + 1)) ∧ Oq.O2 At At W w' p s q (List.replicate j (min 7 (i + 1))) []) := fun w' h => ⟨s2, H1.out, h⟩
            by_cases h6 : 6 ≤ i
            · have h6i : (6 : Int) ≤ (i : Int) := by omega
              have h6d : decide ((6 : Int) ≤ (i : Int)) = true := decide_eq_true h6i
              have hlv := HLv.out
              rw [if_pos (by omega)] at hlv
              clear HLv
              go_wp2_with fail
              refine (HT.out.look2 S.is S.is (fun F hF => L.of_ _ (HG.out _ HT.out.bel) q F _ false false hF)).mono ?_
              rintro e w7 ⟨rfl, hq⟩
              rw [hlv]
              have HTm := HTn.out _ hq
              have HTk : Hid (∃ s, Q19.One s j 0 (min 7 (i + 1)) ∧ Oq.O2 At At W w7 p s q (List.replicate j (min 7 (i + 1))) []) := HTm
              clear hq HTn HTm HT hlv
              go_wp2_with fail
              go_roundw
              case rel => exact ⟨i + 1, by omega, rfl, ⟨l2, rfl, HLn.out.1, HLn.out.2⟩, HTk⟩
              case measure => simp only [intOf]; omega
            · have h6i : ¬ ((6 : Int) ≤ (i : Int)) := by omega
              have h6d : decide ((6 : Int) ≤ (i : Int)) = false := decide_eq_false h6i
              have hlv := HLv.out
              rw [if_neg (by omega)] at hlv
              clear HLv
              go_wp2_with fail
              refine (HT.out.look2 S.is S.is (fun F hF => L.of_ _ (HG.out _ HT.out.bel) q F _ false false hF)).mono ?_
              rintro e w7 ⟨rfl, hq⟩
              rw [hlv]
              have HTm := HTn.out _ hq
              have HTk : Hid (∃ s, Q19.One s j 0 (min 7 (i + 1)) ∧ Oq.O2 At At W w7 p s q (List.replicate j (min 7 (i + 1))) []) := HTm
              clear hq HTn HTm HT hlv
              go_wp2_with fail
              go_roundw
              case rel => exact ⟨i + 1, by omega, rfl, ⟨l2, rfl, HLn.out.1, HLn.out.2⟩, HTk⟩
              case measure => simp only [intOf]; omega
      · have hk2i : ¬ ((1 : Int) < (k : Int)) := by omega
        have hk2d : decide ((1 : Int) < (k : Int)) = false := decide_eq_false hk2i
        clear hnw hk2
        go_wp2_with fail
        go_loopw [11] (fun vj wr => ∃ j : Nat, j ≤ k ∧ vj = .int .i64 (j : Int) ∧ Hid (Oq.O2 At At W wr p s2 q (Q19.part k j (min 7 i)) [])) (fun vj _ => k - (intOf vj).toNat)
        case atStart => exact ⟨0, Nat.zero_le _, rfl, by rw [Q19.part_zero]; exact HT⟩
        case round =>
          clear HT
          obtain ⟨j, hj, rfl, HT⟩ := hrel
          by_cases hjk : j < k
          · have ij : (j : Int) < (k : Int) := by omega
            have HJw : Hid ((Lit.int .i64 (j : Int)).wf = true) := wf19 (by omega)
            have HPu : Hid (Q19.up (Q19.part k j (min 7 i)) (j : Int) = Q19.part k (j + 1) (min 7 i)) := Q19.part_up hjk
            go_wp2_with fail
            refine (HT.out.turn2 S.is (fun F hF => S.bad _ q F _ (j : Int) HJw.out hF)).mono ?_
            rintro e w6 ⟨rfl, hq⟩
            rw [HPu.out] at hq
            replace HT : Hid (Oq.O2 At At W w6 p s2 q (Q19.part k (j + 1) (min 7 i)) []) := hq
            clear hq HPu
            go_wp2_with fail
            go_roundw
            case rel => exact ⟨j + 1, by omega, rfl, HT⟩
            case measure => simp only [intOf]; omega
          · obtain rfl : j = k := by omega
            have ij : ¬ ((j : Int) < (j : Int)) := by omega
            rw [Q19.part_end, show min 7 (min 7 i + 1) = min 7 (i + 1) by omega] at HT
            have HLv : Hid (Q19.of_ (List.replicate j (min 7 (i + 1))) false false = if min 7 (i + 1) = 7 then 2 else 0) := Q19.lev_rep j _ hk0
            have HTn : Hid (∀ w', Oq.O2 At At W w' p s2 q (List.replicate j (min 7 (i + 1))) [] → ∃ s, Q19.One s j 0 (min 7 (i + 1)) ∧ Oq.O2 At At W w' p s q (List.replicate j (min 7 (i + 1))) []) := fun w' h => ⟨s2, H1.out, h⟩
            by_cases h6 : 6 ≤ i
            · have h6i : (6 : Int) ≤ (i : Int) := by omega
              have h6d : decide ((6 : Int) ≤ (i : Int)) = true := decide_eq_true h6i
              have hlv := HLv.out
              rw [if_pos (by omega)] at hlv
              clear HLv
              go_wp2_with fail
              refine (HT.out.look2 S.is S.is (fun F hF => L.of_ _ (HG.out _ HT.out.bel) q F _ false false hF)).mono ?_
              rintro e w7 ⟨rfl, hq⟩
              rw [hlv]
              have HTm := HTn.out _ hq
              have HTk : Hid (∃ s, Q19.One s j 0 (min 7 (i + 1)) ∧ Oq.O2 At At W w7 p s q (List.replicate j (min 7 (i + 1))) []) := HTm
              clear hq HTn HTm HT hlv
              go_wp2_with fail
              go_roundw
              case rel => exact ⟨i + 1, by omega, rfl, ⟨l2, rfl, HLn.out.1, HLn.out.2⟩, HTk⟩
              case measure => simp only [intOf]; omega
            · have h6i : ¬ ((6 : Int) ≤ (i : Int)) := by omega
              have h6d : decide ((6 : Int) ≤ (i : Int)) = false := decide_eq_false h6i
              have hlv := HLv.out
              rw [if_neg (by omega)] at hlv
              clear HLv
              go_wp2_with fail
              refine (HT.out.look2 S.is S.is (fun F hF => L.of_ _ (HG.out _ HT.out.bel) q F _ false false hF)).mono ?_
              rintro e w7 ⟨rfl, hq⟩
              rw [hlv]
              have HTm := HTn.out _ hq
              have HTk : Hid (∃ s, Q19.One s j 0 (min 7 (i + 1)) ∧ Oq.O2 At At W w7 p s q (List.replicate j (min 7 (i + 1))) []) := HTm
              clear hq HTn HTm HT hlv
              go_wp2_with fail
              go_roundw
              case rel => exact ⟨i + 1, by omega, rfl, ⟨l2, rfl, HLn.out.1, HLn.out.2⟩, HTk⟩
              case measure => simp only [intOf]; omega
    · obtain rfl : i = len1 := by omega
      have ii : ¬ ((i : Int) < (i : Int)) := by omega
      obtain ⟨s, h1, ho⟩ := HTs.out
      have HBz : Hid (Below W.heap.size W wr) := ho.bel
      clear h1 ho HTs hl
      go_wp2
      go_ret
      exact ⟨rfl, HBz.out⟩
end Go.Proofs.YtfempghbkchepaaDoor.levelGrows
