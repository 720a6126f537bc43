/- LevelTells: of every slice of at most twelve bytes (more are let by), silent or wrong, and level: how bad it is; what each level may; no condition. -/
import Derived.Test.YtfempghbkchepaaDoorB20
import Derived.Test.YtfempghbkchepaaDoorC20
import Derived.Test.YtfempghbkchepaaDoorU2
import Derived.ProofKit
import Derived.OpenShut
import Derived.Deep.CutBlock
namespace Go.Proofs.YtfempghbkchepaaDoor.levelTells
open Go.ChangeShapes Go.WideShapes Go.ChangeAt Go.RowKit
set_option linter.unusedVariables false
variable {At : Ob.A (List Nat)} {T : World → Prop}
set_option maxRecDepth 100000 in
set_option maxHeartbeats 8000000 in
theorem walkA (S : StatusSpec At) (L : LevelSpec At T) (s1 : Option Addr) (len1 cap1 : Nat) (B : Nat → Nat) (a b : Bool) (lv : Int) (wl : (Lit.int .i64 lv).wf = true) (W : World) (hin : IsU19 W s1 len1 B) (hG : ∀ w', Below W.heap.size W w' → T w') : Calls Tryd.prog 3 #[.slice s1 len1 cap1, .bool a, .bool b, .int .i64 lv] W fun e w' => e = .returned (.bool true) ∧ Below W.heap.size W w' := by
  have HG : Hid (∀ w', Below W.heap.size W w' → T w') := hG
  clear hG
  go_enter Tryd.func3, Tryd.ntmps3
  go_wp2_with fail
  refine (known20_any S L _ HG.out).mono ?_
  rintro e w1 ⟨rfl, hb⟩
  have HB : Hid (Below W.heap.size W w1) := hb
  clear hb
  by_cases h12 : 12 < len1
  · have h12i : (12 : Int) < (len1 : Int) := by omega
    clear hin
    go_wp2
    go_ret
    exact ⟨rfl, HB.out⟩
  have h12i : ¬ ((12 : Int) < (len1 : Int)) := by omega
  have HEl : Hid (∀ i, i < len1 → ∃ b off, s1 = some ⟨b, off, none⟩ ∧ (∀ w', Below W.heap.size W w' → w'.cell? ⟨b, off + i, none⟩ = some (.int .u8 (B i : Int))) ∧ B i < 256) := fun i hi => by
    obtain ⟨b, off, hs, hc, hB⟩ := hin i hi
    exact ⟨b, off, hs, fun w' hbl => (hbl.cell (p := ⟨b, off + i, none⟩) (block_lt_of_cell hc)).trans hc, hB⟩
  clear hin
  have HN : Hid (len1 ≤ 12) := (by omega : len1 ≤ 12)
  have HLw : Hid ((Lit.int .i64 lv).wf = true) := wl
  have HNw : Hid ((Lit.int .i64 (len1 : Int)).wf = true) := wf19 (by omega)
  clear wl
  go_wp2_with fail
  refine (Oq.O1.make (S.new w1 (len1 : Int) HNw.out) HB.out).mono ?_
  rintro e w2 ⟨p, rfl, hq⟩
  have HO : Hid (Oq.O1 At W w2 p (Q19.mk (len1 : Int)) []) := hq
  clear hq HB h12i h12
  go_wp2_with fail
  refine (HO.out.make2 S.is (fun F hF => rt_new _ (len1 : Int) HNw.out)).mono ?_
  rintro e w3 ⟨q, rfl, hq⟩
  have HT : Hid (∃ s, Oq.O2 At RtAt W w3 p s q s []) := ⟨_, hq⟩
  clear hq HO
  go_wp2_with fail
  go_loopw [11, 12] (fun vi _v12 wr => ∃ i : Nat, i ≤ len1 ∧ vi = .int .i64 (i : Int) ∧ Hid (∃ s, Oq.O2 At RtAt W wr p s q s [])) (fun vi _ _ => len1 - (intOf vi).toNat)
  case atStart => exact ⟨0, Nat.zero_le _, rfl, HT⟩
  case round =>
    clear HT
    obtain ⟨i, hi, rfl, HTs⟩ := hrel
    by_cases hil : i < len1
    · obtain ⟨b8, off, rfl, hc, hB⟩ := HEl.out i hil
      have ii : (i : Int) < (len1 : Int) := by omega
      have ib : (i : Int) < 1000 := by have := HN.out; omega
      have HCe : Hid (∀ w', Below W.heap.size W w' → w'.cell? ⟨b8, off + i, none⟩ = some (.int .u8 (B i : Int))) := hc
      clear hc
      generalize B i = x at HCe hB
      obtain ⟨m, hm⟩ : ∃ m, x % 9 = m := ⟨_, rfl⟩
      have em : (x : Int) % 9 = (m : Int) := by omega
      have tm : (x : Int).tmod 9 = (m : Int) := by rw [Int.tmod_eq_emod_of_nonneg (by omega)]; exact em
      have m9 : m < 9 := by omega
      have xb : (x : Int) ≤ 255 := by omega
      have HIw : Hid ((Lit.int .i64 (i : Int)).wf = true) := wf19 (by omega)
      clear hm
      go_wp2_with fail
      go_loopw [12] (fun vk wk => ∃ k : Nat, k ≤ m ∧ vk = .int .i64 (k : Int) ∧ Hid (∃ s, Oq.O2 At RtAt W wk p s q s [])) (fun vk _ => m - (intOf vk).toNat)
      case atStart => exact ⟨0, Nat.zero_le _, rfl, HTs⟩
      case round =>
        clear HTs
        obtain ⟨k, hk, rfl, HTs⟩ := hrel
        obtain ⟨s, ho⟩ := HTs.out
        have HT : Hid (Oq.O2 At RtAt W wr p s q s []) := ho
        have c0 := HCe.out _ ho.bel
        clear ho HTs
        by_cases hkm : k < m
        · have kk : (k : Int) < (m : Int) := by omega
          go_wp2_with fail
          refine (HT.out.turn rt_is (fun F hF => S.bad _ p F _ (i : Int) HIw.out hF)).mono ?_
          rintro e w4 ⟨rfl, hq⟩
          have HU : Hid (Oq.O2 At RtAt W w4 p (Q19.up s (i : Int)) q s []) := hq
          have HOk : Hid (Q19.Ok s) := by obtain ⟨_, _, h, _⟩ := HT.out.doc; exact h
          clear hq HT c0
          go_wp2_with fail
          refine (HU.out.turn2 S.is (fun F hF => rt_add _ q F _ (i : Int) 1 (by decide) hF)).mono ?_
          rintro e w5 ⟨rfl, hq⟩
          rw [add_up HOk.out] at hq
          have HTn : Hid (∃ s, Oq.O2 At RtAt W w5 p s q s []) := ⟨_, hq⟩
          clear hq HU HOk
          go_wp2_with fail
          go_roundw
          case rel => exact ⟨k + 1, by omega, rfl, HTn⟩
          case measure => simp only [intOf]; omega
        · obtain rfl : k = m := by omega
          have kk : ¬ ((k : Int) < (k : Int)) := by omega
          have HTn : Hid (∃ s, Oq.O2 At RtAt W wr p s q s []) := ⟨_, HT.out⟩
          clear HT
          go_wp2_with fail
          go_roundw
          case rel => exact ⟨i + 1, by omega, rfl, HTn⟩
          case measure => simp only [intOf]; omega
    · obtain rfl : i = len1 := by omega
      have ii : ¬ ((i : Int) < (i : Int)) := by omega
      obtain ⟨s, ho⟩ := HTs.out
      have HT : Hid (Oq.O2 At RtAt W wr p s q s []) := ho
      clear HEl ho HTs
      have hlv : lv < 0 ∨ (0 ≤ lv ∧ lv < 2) ∨ lv = 2 ∨ 3 ≤ lv := by omega
      rcases hlv with hlv | hlv | hlv | hlv
      · skip
        have d0 : decide ((0 : Int) ≤ lv) = false := decide_eq_false (by omega)
        have d2 : decide (lv < (2 : Int)) = true := decide_eq_true (by omega)
        have d3 : decide (lv < (3 : Int)) = true := decide_eq_true (by omega)
        have m1 : Q19.may lv = false := by unfold Q19.may; rw [d0, d2]; rfl
        have m2 : Q19.beats lv = false := by unfold Q19.beats; rw [d0, d3]; rfl
        clear hlv
        go_wp2_with fail
        refine (HT.out.look S.is rt_is (fun F hF => L.of_ _ (HG.out _ HT.out.bel) p F _ a b hF)).mono ?_
        rintro e w5 ⟨rfl, hq⟩
        replace HT : Hid (Oq.O2 At RtAt W w5 p s q s []) := hq
        clear hq
        go_wp2_with fail
        refine (HT.out.look2 S.is rt_is (fun F hF => rt_level _ q F _ a b hF)).mono ?_
        rintro e w6 ⟨rfl, hq⟩
        replace HT : Hid (Oq.O2 At RtAt W w6 p s q s []) := hq
        clear hq
        generalize Q19.of_ s a b = X
        go_wp2_with fail
        refine (HT.out.look S.is rt_is (fun F hF => L.may _ (HG.out _ HT.out.bel) lv HLw.out)).mono ?_
        rintro e w7 ⟨rfl, hq⟩
        replace HT : Hid (Oq.O2 At RtAt W w7 p s q s []) := hq
        rw [m1]
        clear hq
        go_wp2_with fail
        refine (HT.out.look S.is rt_is (fun F hF => L.beats _ (HG.out _ HT.out.bel) lv HLw.out)).mono ?_
        rintro e w8 ⟨rfl, hq⟩
        have HBz : Hid (Below W.heap.size W w8) := hq.bel
        rw [m2]
        clear hq HT m1 m2
        go_wp2
        go_ret
        exact ⟨rfl, HBz.out⟩
      · skip
        have d0 : decide ((0 : Int) ≤ lv) = true := decide_eq_true (by omega)
        have d2 : decide (lv < (2 : Int)) = true := decide_eq_true (by omega)
        have d3 : decide (lv < (3 : Int)) = true := decide_eq_true (by omega)
        have m1 : Q19.may lv = true := by unfold Q19.may; rw [d0, d2]; rfl
        have m2 : Q19.beats lv = true := by unfold Q19.beats; rw [d0, d3]; rfl
        clear hlv
        go_wp2_with fail
        refine (HT.out.look S.is rt_is (fun F hF => L.of_ _ (HG.out _ HT.out.bel) p F _ a b hF)).mono ?_
        rintro e w5 ⟨rfl, hq⟩
        replace HT : Hid (Oq.O2 At RtAt W w5 p s q s []) := hq
        clear hq
        go_wp2_with fail
        refine (HT.out.look2 S.is rt_is (fun F hF => rt_level _ q F _ a b hF)).mono ?_
        rintro e w6 ⟨rfl, hq⟩
        replace HT : Hid (Oq.O2 At RtAt W w6 p s q s []) := hq
        clear hq
        generalize Q19.of_ s a b = X
        go_wp2_with fail
        refine (HT.out.look S.is rt_is (fun F hF => L.may _ (HG.out _ HT.out.bel) lv HLw.out)).mono ?_
        rintro e w7 ⟨rfl, hq⟩
        replace HT : Hid (Oq.O2 At RtAt W w7 p s q s []) := hq
        rw [m1]
        clear hq
        go_wp2_with fail
        refine (HT.out.look S.is rt_is (fun F hF => L.beats _ (HG.out _ HT.out.bel) lv HLw.out)).mono ?_
        rintro e w8 ⟨rfl, hq⟩
        have HBz : Hid (Below W.heap.size W w8) := hq.bel
        rw [m2]
        clear hq HT m1 m2
        go_wp2
        go_ret
        exact ⟨rfl, HBz.out⟩
      · skip
        have d0 : decide ((0 : Int) ≤ lv) = true := decide_eq_true (by omega)
        have d2 : decide (lv < (2 : Int)) = false := decide_eq_false (by omega)
        have d3 : decide (lv < (3 : Int)) = true := decide_eq_true (by omega)
        have m1 : Q19.may lv = false := by unfold Q19.may; rw [d0, d2]; rfl
        have m2 : Q19.beats lv = true := by unfold Q19.beats; rw [d0, d3]; rfl
        clear hlv
        go_wp2_with fail
        refine (HT.out.look S.is rt_is (fun F hF => L.of_ _ (HG.out _ HT.out.bel) p F _ a b hF)).mono ?_
        rintro e w5 ⟨rfl, hq⟩
        replace HT : Hid (Oq.O2 At RtAt W w5 p s q s []) := hq
        clear hq
        go_wp2_with fail
        refine (HT.out.look2 S.is rt_is (fun F hF => rt_level _ q F _ a b hF)).mono ?_
        rintro e w6 ⟨rfl, hq⟩
        replace HT : Hid (Oq.O2 At RtAt W w6 p s q s []) := hq
        clear hq
        generalize Q19.of_ s a b = X
        go_wp2_with fail
        refine (HT.out.look S.is rt_is (fun F hF => L.may _ (HG.out _ HT.out.bel) lv HLw.out)).mono ?_
        rintro e w7 ⟨rfl, hq⟩
        replace HT : Hid (Oq.O2 At RtAt W w7 p s q s []) := hq
        rw [m1]
        clear hq
        go_wp2_with fail
        refine (HT.out.look S.is rt_is (fun F hF => L.beats _ (HG.out _ HT.out.bel) lv HLw.out)).mono ?_
        rintro e w8 ⟨rfl, hq⟩
        have HBz : Hid (Below W.heap.size W w8) := hq.bel
        rw [m2]
        clear hq HT m1 m2
        go_wp2
        go_ret
        exact ⟨rfl, HBz.out⟩
      · skip
        have d0 : decide ((0 : Int) ≤ lv) = true := decide_eq_true (by omega)
        have d2 : decide (lv < (2 : Int)) = false := decide_eq_false (by omega)
        have d3 : decide (lv < (3 : Int)) = false := decide_eq_false (by omega)
        have m1 : Q19.may lv = false := by unfold Q19.may; rw [d0, d2]; rfl
        have m2 : Q19.beats lv = false := by unfold Q19.beats; rw [d0, d3]; rfl
        clear hlv
        go_wp2_with fail
        refine (HT.out.look S.is rt_is (fun F hF => L.of_ _ (HG.out _ HT.out.bel) p F _ a b hF)).mono ?_
        rintro e w5 ⟨rfl, hq⟩
        replace HT : Hid (Oq.O2 At RtAt W w5 p s q s []) := hq
        clear hq
        go_wp2_with fail
        refine (HT.out.look2 S.is rt_is (fun F hF => rt_level _ q F _ a b hF)).mono ?_
        rintro e w6 ⟨rfl, hq⟩
        replace HT : Hid (Oq.O2 At RtAt W w6 p s q s []) := hq
        clear hq
        generalize Q19.of_ s a b = X
        go_wp2_with fail
        refine (HT.out.look S.is rt_is (fun F hF => L.may _ (HG.out _ HT.out.bel) lv HLw.out)).mono ?_
        rintro e w7 ⟨rfl, hq⟩
        replace HT : Hid (Oq.O2 At RtAt W w7 p s q s []) := hq
        rw [m1]
        clear hq
        go_wp2_with fail
        refine (HT.out.look S.is rt_is (fun F hF => L.beats _ (HG.out _ HT.out.bel) lv HLw.out)).mono ?_
        rintro e w8 ⟨rfl, hq⟩
        have HBz : Hid (Below W.heap.size W w8) := hq.bel
        rw [m2]
        clear hq HT m1 m2
        go_wp2
        go_ret
        exact ⟨rfl, HBz.out⟩
end Go.Proofs.YtfempghbkchepaaDoor.levelTells
