/- QueueCopies: for every byte and row of bytes: a copy goes its own way (rows of more than 40 are let by); no condition. -/
import Derived.Test.YtfffpaoimhmedaaVc
import Derived.Test.YtfffpaoimhmedaaVe
import Derived.Test.YtfffpaoimhmedaaFu
import Derived.ProofKit
import Derived.OpenShut
import Derived.Deep.CutBlock
namespace Go.Proofs.Ytfffpaoimhmedaa.queueCopies
open Go.ChangeShapes Go.WideShapes Go.ChangeAt Go.RowKit
set_option linter.unusedVariables false
variable {At : Ob.A Vq.St}
set_option maxRecDepth 100000 in
set_option maxHeartbeats 8000000 in
theorem row (S : QueueSpec At) (c0 : Int) (w0 : (Lit.int .u8 c0).wf = true) (a : Option Addr) (len cap : Nat) (B : Nat → Nat) (W : World) (HU : Hid (U8Row W a len B)) :
    Calls Try.prog 6 #[.int .u8 c0, .slice a len cap] W fun e w' => e = .returned (.bool true) ∧ Below W.heap.size W w' := by
  have HK : Hid (∀ w, Calls Try.prog 8 #[] w fun e w' => e = .returned (.bool true) ∧ Below w.heap.size w w') := fun w => known17_any S w
  obtain ⟨c0, rfl, b0⟩ := natU8v w0
  obtain ⟨k, hk⟩ : ∃ k : Nat, c0 % 4 + 1 = k := ⟨_, rfl⟩
  have ik : (c0 : Int) % 4 + 1 = (k : Int) := by omega
  have k1 : 1 ≤ k := by omega
  have k4 : k ≤ 4 := by omega
  have kb : (k : Int) ≤ 4 := by omega
  clear w0 hk
  go_enter Try.func6, Try.ntmps6
  go_wp2_with fail
  refine (HK.out _).mono ?_
  rintro e w1 ⟨rfl, hb⟩
  have HB : Hid (Below W.heap.size W w1) := hb
  clear hb HK
  by_cases hl : len ≤ 40
  rotate_left
  · have hli : (40 : Int) < (len : Int) := by omega
    go_wp2
    go_ret
    exact ⟨rfl, HB.out⟩
  have hli : (len : Int) ≤ 40 := by omega
  have hln : ¬ ((40 : Int) < (len : Int)) := by omega
  go_wp2_with fail
  refine (Qs.new (S.new w1 (k : Int) (wfn (by omega))) HB.out).mono ?_
  rintro e w2 ⟨p, rfl, hq⟩
  rw [Vq.held_eq rfl k1 k4] at hq
  have HQ : Hid (Qs At W w2 p ⟨k, []⟩ []) := hq
  clear hq HB
  go_upto_block 0 with fail
  clear ik hln
  go_wp2_with fail
  go_loopw [6, 7, 8] (fun vi _ _ wr => ∃ (i : Nat) (s : Vq.St), i ≤ len ∧ vi = .int .i64 (i : Int) ∧ Hid (Qs At W wr p s [])) (fun vi _ _ _ => len - (intOf vi).toNat)
  case atStart => exact ⟨0, _, Nat.zero_le _, rfl, HQ⟩
  case round =>
    clear HQ
    obtain ⟨i, s, hi, rfl, HQ⟩ := hrel
    have HOk : Hid (1 ≤ s.room ∧ s.l.length ≤ 4) := by obtain ⟨a, b, c⟩ := HQ.out.ok S; exact ⟨a, by omega⟩
    obtain ⟨n, hn⟩ : ∃ n, s.l.length = n := ⟨_, rfl⟩
    have HC := HQ.out.all S
    rw [hn] at HC
    by_cases hil : i < len
    · have ii : (i : Int) < (len : Int) := by omega
      have ib : (i : Int) < 40 := by omega
      obtain h0 | ⟨b1, o1, rfl, hc1⟩ := HU.out
      · omega
      obtain ⟨hcell, hB⟩ := hc1 i hil
      obtain ⟨bv, hbv⟩ : ∃ bv, B i = bv := ⟨_, rfl⟩
      rw [hbv] at hcell hB
      have HCe : Hid (∀ w : World, Below W.heap.size W w → w.cell? ⟨b1, o1 + i, none⟩ = some (.int .u8 (bv : Int))) := fun w hb => by
        rw [hb.cell (p := ⟨b1, o1 + i, none⟩) (block_lt_of_cell hcell)]
        exact hcell
      have hB2 : (bv : Int) < 256 := by omega
      clear hcell hB hbv hc1
      go_wp2_with fail
      refine HC.mono ?_
      rintro e w3 ⟨a1, c1, R1, rfl, hL1, hq3⟩
      have HL1 : Hid (Lst R1 a1 c1 n (s.l.flatMap dC)) := hL1
      have HQ3 : Hid (Qs At W w3 p s (R1 ++ [])) := hq3
      clear hL1 hq3 HC HQ
      go_wp2_with fail
      refine (HQ3.out.copy S).mono ?_
      rintro e w4 ⟨q, rfl, h4⟩
      have H2 : Hid (Q2 At W w4 p s q s (R1 ++ [])) := h4
      clear h4 HQ3
      have hce := HCe.out w4 H2.out.fst.bel
      by_cases m2 : (bv : Int) % 2 = 0
      · by_cases m3 : (bv : Int) % 3 = 0
        · skip
          go_wp2_with fail
          refine (H2.out.turn2 S (fun F hF => S.put _ q F s (i : Int) ⟨#[99]⟩ (wfn (by omega)) hF)).mono ?_
          rintro e w5 ⟨rfl, h5⟩
          have HQ5 : Hid (Qs At W w5 p s (R1 ++ [])) := h5.fst
          clear h5 H2
          have HC5 := HQ5.out.all S
          rw [hn] at HC5
          go_wp2_with fail
          refine HC5.mono ?_
          rintro e w6 ⟨a2, c2, R2, rfl, hL2, hq6⟩
          have HQ6 : Hid (Qs At W w6 p s (R2 ++ (R1 ++ []))) := hq6
          have hS := same17_any w6 s.l n a2 a1 c2 c1 hn.symm (hL2.li (fun x hx => HQ6.out.rows x (List.mem_append_left _ hx))) (HL1.out.li (fun x hx => HQ6.out.rows x (List.mem_append_right _ (List.mem_append_left _ hx)))) (by have := HOk.out.2; omega)
          clear hL2 hq6 HQ5 HC5
          go_wp2_with fail
          refine hS.mono ?_
          rintro e w7 ⟨rfl, hb⟩
          have HQ7 : Hid (Qs At W w7 p s []) := (HQ6.out.on S hb).drop
          clear hb HQ6 hS
          have hce := HCe.out w7 HQ7.out.bel
          go_wp2_with fail
          refine (Qs.turn (fun F hF => S.take w7 p F s hF) HQ7.out).mono ?_
          rintro e w8 ⟨rfl, hq8⟩
          have HQ8 : Hid (Qs At W w8 p _ []) := hq8
          clear hq8 HQ7 hce
          go_wp2_with fail
          go_roundw
          case rel => exact ⟨i + 1, _, by omega, rfl, HQ8⟩
          case measure => simp only [intOf]; omega
        · have m3b : ((bv : Int) % 3 == 0) = false := beq_eq_false_iff_ne.2 m3
          go_wp2_with fail
          refine (H2.out.turn2 S (fun F hF => S.put _ q F s (i : Int) ⟨#[99]⟩ (wfn (by omega)) hF)).mono ?_
          rintro e w5 ⟨rfl, h5⟩
          have HQ5 : Hid (Qs At W w5 p s (R1 ++ [])) := h5.fst
          clear h5 H2
          have HC5 := HQ5.out.all S
          rw [hn] at HC5
          go_wp2_with fail
          refine HC5.mono ?_
          rintro e w6 ⟨a2, c2, R2, rfl, hL2, hq6⟩
          have HQ6 : Hid (Qs At W w6 p s (R2 ++ (R1 ++ []))) := hq6
          have hS := same17_any w6 s.l n a2 a1 c2 c1 hn.symm (hL2.li (fun x hx => HQ6.out.rows x (List.mem_append_left _ hx))) (HL1.out.li (fun x hx => HQ6.out.rows x (List.mem_append_right _ (List.mem_append_left _ hx)))) (by have := HOk.out.2; omega)
          clear hL2 hq6 HQ5 HC5
          go_wp2_with fail
          refine hS.mono ?_
          rintro e w7 ⟨rfl, hb⟩
          have HQ7 : Hid (Qs At W w7 p s []) := (HQ6.out.on S hb).drop
          clear hb HQ6 hS
          have hce := HCe.out w7 HQ7.out.bel
          go_wp2_with fail
          refine (Qs.turn (fun F hF => S.put w7 p F s (i : Int) ⟨#[113]⟩ (wfn (by omega)) hF) HQ7.out).mono ?_
          rintro e w8 ⟨rfl, hq8⟩
          have HQ8 : Hid (Qs At W w8 p _ []) := hq8
          clear hq8 HQ7 hce
          go_wp2_with fail
          go_roundw
          case rel => exact ⟨i + 1, _, by omega, rfl, HQ8⟩
          case measure => simp only [intOf]; omega
      · have m2b : ((bv : Int) % 2 == 0) = false := beq_eq_false_iff_ne.2 m2
        by_cases m3 : (bv : Int) % 3 = 0
        · skip
          go_wp2_with fail
          refine (H2.out.turn2 S (fun F hF => S.take _ q F s hF)).mono ?_
          rintro e w5 ⟨rfl, h5⟩
          have HQ5 : Hid (Qs At W w5 p s (R1 ++ [])) := h5.fst
          clear h5 H2
          have HC5 := HQ5.out.all S
          rw [hn] at HC5
          go_wp2_with fail
          refine HC5.mono ?_
          rintro e w6 ⟨a2, c2, R2, rfl, hL2, hq6⟩
          have HQ6 : Hid (Qs At W w6 p s (R2 ++ (R1 ++ []))) := hq6
          have hS := same17_any w6 s.l n a2 a1 c2 c1 hn.symm (hL2.li (fun x hx => HQ6.out.rows x (List.mem_append_left _ hx))) (HL1.out.li (fun x hx => HQ6.out.rows x (List.mem_append_right _ (List.mem_append_left _ hx)))) (by have := HOk.out.2; omega)
          clear hL2 hq6 HQ5 HC5
          go_wp2_with fail
          refine hS.mono ?_
          rintro e w7 ⟨rfl, hb⟩
          have HQ7 : Hid (Qs At W w7 p s []) := (HQ6.out.on S hb).drop
          clear hb HQ6 hS
          have hce := HCe.out w7 HQ7.out.bel
          go_wp2_with fail
          refine (Qs.turn (fun F hF => S.take w7 p F s hF) HQ7.out).mono ?_
          rintro e w8 ⟨rfl, hq8⟩
          have HQ8 : Hid (Qs At W w8 p _ []) := hq8
          clear hq8 HQ7 hce
          go_wp2_with fail
          go_roundw
          case rel => exact ⟨i + 1, _, by omega, rfl, HQ8⟩
          case measure => simp only [intOf]; omega
        · have m3b : ((bv : Int) % 3 == 0) = false := beq_eq_false_iff_ne.2 m3
          go_wp2_with fail
          refine (H2.out.turn2 S (fun F hF => S.take _ q F s hF)).mono ?_
          rintro e w5 ⟨rfl, h5⟩
          have HQ5 : Hid (Qs At W w5 p s (R1 ++ [])) := h5.fst
          clear h5 H2
          have HC5 := HQ5.out.all S
          rw [hn] at HC5
          go_wp2_with fail
          refine HC5.mono ?_
          rintro e w6 ⟨a2, c2, R2, rfl, hL2, hq6⟩
          have HQ6 : Hid (Qs At W w6 p s (R2 ++ (R1 ++ []))) := hq6
          have hS := same17_any w6 s.l n a2 a1 c2 c1 hn.symm (hL2.li (fun x hx => HQ6.out.rows x (List.mem_append_left _ hx))) (HL1.out.li (fun x hx => HQ6.out.rows x (List.mem_append_right _ (List.mem_append_left _ hx)))) (by have := HOk.out.2; omega)
          clear hL2 hq6 HQ5 HC5
          go_wp2_with fail
          refine hS.mono ?_
          rintro e w7 ⟨rfl, hb⟩
          have HQ7 : Hid (Qs At W w7 p s []) := (HQ6.out.on S hb).drop
          clear hb HQ6 hS
          have hce := HCe.out w7 HQ7.out.bel
          go_wp2_with fail
          refine (Qs.turn (fun F hF => S.put w7 p F s (i : Int) ⟨#[113]⟩ (wfn (by omega)) hF) HQ7.out).mono ?_
          rintro e w8 ⟨rfl, hq8⟩
          have HQ8 : Hid (Qs At W w8 p _ []) := hq8
          clear hq8 HQ7 hce
          go_wp2_with fail
          go_roundw
          case rel => exact ⟨i + 1, _, by omega, rfl, HQ8⟩
          case measure => simp only [intOf]; omega
    · obtain rfl : len = i := by omega
      have ii : ¬ ((len : Int) < (len : Int)) := by omega
      clear HC
      go_wp2_with fail
      refine (Qs.turn (fun F hF => S.len wr p F s hF) HQ.out).mono ?_
      rintro e w3 ⟨rfl, hq3⟩
      have HC3 := hq3.all S
      rw [hn] at HC3 ⊢
      clear hq3 HQ
      go_wp2_with fail
      refine HC3.mono ?_
      rintro e w4 ⟨a2, c2, R2, rfl, _, hq4⟩
      have HBf : Hid (Below W.heap.size W w4) := hq4.bel
      clear hq4 HC3
      go_wp2
      go_ret
      exact ⟨rfl, HBf.out⟩
theorem walkA (S : QueueSpec At) (c0 : Int) (w0 : (Lit.int .u8 c0).wf = true) (s1 : Option Addr) (len1 cap1 : Nat) {w : World} (w1 : len1 ≤ maxLen ∧ ∃ B, U8Row w s1 len1 B) (w' : World) (hw : w' = w) :
    Calls Try.prog 6 #[.int .u8 c0, .slice s1 len1 cap1] w' fun e w'' => e = .returned (.bool true) ∧ Below w'.heap.size w' w'' := by
  subst hw
  obtain ⟨_, B, hB⟩ := w1
  exact row S c0 w0 s1 len1 cap1 B _ hB
end Go.Proofs.Ytfffpaoimhmedaa.queueCopies
